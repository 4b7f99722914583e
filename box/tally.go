package box

import "omnibus/api"

// tally is what has been counted. How many wait and stand isn't: that is asked when it is reported.
type tally Report

func (t *tally) put()     { t.Put++ }
func (t *tally) sent()    { t.Sent++ }
func (t *tally) gone()    { t.Gone++ }
func (t *tally) came()    { t.Came++ }
func (t *tally) kept()    { t.Kept++ }
func (t *tally) refused() { t.Refused++ }
func (t *tally) over()    { t.Over++ }
func (t *tally) taken()   { t.Taken++ }

// fates are how it is counted what became of a frame that came, at its number.
func fates() [Over + 1]func(*tally) {
	return [...]func(*tally){
		Kept:    (*tally).kept,
		Refused: (*tally).refused,
		Over:    (*tally).over,
	}
}

// count counts what a call was, if it went well.
func (b *Box) count(e api.Errno, as ...func(*tally)) {
	if e != api.OK {
		return
	}
	for _, one := range as {
		one(&b.tally)
	}
}
