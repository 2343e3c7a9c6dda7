package value

import (
	"errors"
	"strconv"
	"unicode/utf8"
)

var (
	errUTF8      = errors.New("a byte that is not UTF-8")
	errEnd       = errors.New("the text ends too early")
	errRest      = errors.New("something stands behind the value")
	errSign      = errors.New("another sign must stand here")
	errDeep      = errors.New("too many arrays and objects within one another")
	errNumber    = errors.New("no number of this kind")
	errGreat     = errors.New("the number is too great")
	errControl   = errors.New("a byte below 0x20 in a string")
	errEscape    = errors.New("no escape of this kind")
	errSurrogate = errors.New("a surrogate without its other half")
	errTwice     = errors.New("the key stands there twice")
	errInside    = errors.New("the reading itself went wrong")
)

// Fault says that a text is no JSON of this kind: how many bytes were read when it showed, and why.
type Fault struct {
	At    int
	Cause error
}

func (f *Fault) Error() string {
	return "at byte " + strconv.Itoa(f.At) + ": " + f.Cause.Error()
}

func (f *Fault) Unwrap() error { return f.Cause }

// CheckUTF8 gives a Fault if the text is not UTF-8 as strings have it.
func CheckUTF8(text string) error {
	for at := 0; at < len(text); {
		r, size := utf8.DecodeRuneInString(text[at:])
		// U+FFFD may stand in a text by itself; then it has three bytes.
		if r == utf8.RuneError && size == 1 {
			return &Fault{At: at, Cause: errUTF8}
		}
		at += size
	}
	return nil
}
