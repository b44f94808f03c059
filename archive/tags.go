package archive

import "folio/api"

// names are the tags that name what there is on each level, PATIENT first.
var names = [4]int{api.Identity, api.Study, api.Series, api.Picture}

// kindOf is empty for a tag that is of no use.
func kindOf(tag int) string {
	switch tag {
	case api.Study, api.Series, api.Picture:
		return api.Name
	case api.Level, api.Way:
		return api.Code
	case api.Identity, api.Order:
		return api.Text
	case api.Patient:
		return api.Person
	case api.Birth, api.Day:
		return api.Date
	case api.Hour:
		return api.Time
	case api.SeriesNo, api.PictureNo, api.StudyCount, api.SeriesIn, api.PicturesIn:
		return api.Number
	case api.Parts:
		return api.Items
	}
	return ""
}

// isKept: a description may have a level and counts, but an answer has its
// own.
func isKept(tag int) bool {
	switch tag {
	case api.Level, api.StudyCount, api.SeriesIn, api.PicturesIn:
		return false
	}
	return kindOf(tag) != ""
}

func isInParts(tag int) bool { return tag == api.Word || tag == api.Meaning }
