package archive

import "folio/api"

// levels are the values of Level: each stands above the next.
var levels = [4]string{"PATIENT", "STUDY", "SERIES", "IMAGE"}

// names are the tags that name what there is on each level.
var names = [4]int{api.Identity, api.Study, api.Series, api.Picture}

// counts are the tags that tell how many there are one level below; below
// pictures there is nothing.
var counts = [3]int{api.StudyCount, api.SeriesIn, api.PicturesIn}

// rowOf is the highest level on which a tag can be asked for. Level goes with
// each; a tag of no use lies below them all.
func rowOf(tag int) int {
	switch tag {
	case api.Level, api.Identity, api.Patient, api.Birth, api.StudyCount:
		return 0
	case api.Study, api.Day, api.Hour, api.Order, api.SeriesIn:
		return 1
	case api.Series, api.Way, api.SeriesNo, api.PicturesIn:
		return 2
	case api.Picture, api.PictureNo, api.Parts:
		return 3
	}
	return len(levels)
}

// kindOf is empty for a tag that is of no use.
func kindOf(tag int) string {
	switch tag {
	case api.Study, api.Series, api.Picture:
		return api.Name
	case api.Level, api.Way:
		return api.Code
	case api.Identity, api.Order:
		return api.Text
	case api.Patient:
		return api.Person
	case api.Birth, api.Day:
		return api.Date
	case api.Hour:
		return api.Time
	case api.SeriesNo, api.PictureNo, api.StudyCount, api.SeriesIn, api.PicturesIn:
		return api.Number
	case api.Parts:
		return api.Items
	}
	return ""
}

// isKept: a description may have a level and counts, but an answer has its
// own.
func isKept(tag int) bool {
	switch tag {
	case api.Level, api.StudyCount, api.SeriesIn, api.PicturesIn:
		return false
	}
	return kindOf(tag) != ""
}

func isInParts(tag int) bool { return tag == api.Word || tag == api.Meaning }
