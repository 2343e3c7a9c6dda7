package value

import (
	"strings"
	"unicode/utf8"

	"notary/api"
)

// reader goes through a text; where the text is none of this kind it panics with a *Fault, which Parse recovers.
type reader struct {
	text  string
	at    int
	depth int
}

// Parse reads a text as JSON of this kind; its error is a *Fault.
func Parse(text string) (v Value, err error) {
	// Outside of strings only ASCII may stand, so the whole text can be held to what strings ask, ahead of reading.
	if err := CheckUTF8(text); err != nil {
		return nil, err
	}
	r := &reader{text: text}
	defer func() {
		if thrown := recover(); thrown != nil {
			v, err = nil, r.caught(thrown)
		}
	}()
	v = r.value()
	r.blanks()
	if r.at < len(r.text) {
		panic(r.fault(errRest))
	}
	return v, nil
}

func (r *reader) fault(cause error) *Fault {
	return &Fault{At: r.at, Cause: cause}
}

// caught is what Parse answers to a panic: no call of the program may panic, so one that is no fault of the text becomes a Fault too, with a cause that tells it apart.
func (r *reader) caught(thrown any) *Fault {
	if fault, ok := thrown.(*Fault); ok {
		return fault
	}
	return r.fault(errInside)
}

// next is the byte that comes, or 0 at the end: no sign of JSON begins with that byte.
func (r *reader) next() byte {
	if r.at == len(r.text) {
		return 0
	}
	return r.text[r.at]
}

func (r *reader) pop() byte {
	if r.at == len(r.text) {
		panic(r.fault(errEnd))
	}
	b := r.text[r.at]
	r.at++
	return b
}

func (r *reader) blanks() {
	for {
		switch r.next() {
		case ' ', '\t', '\n', '\r':
			r.at++
		default:
			return
		}
	}
}

// take steps over the sign, if it comes next behind blanks.
func (r *reader) take(sign byte) bool {
	r.blanks()
	if r.next() != sign {
		return false
	}
	r.at++
	return true
}

func (r *reader) need(sign byte) {
	if !r.take(sign) {
		panic(r.fault(errSign))
	}
}

func (r *reader) value() Value {
	r.blanks()
	switch b := r.next(); {
	case b == '{':
		return r.object()
	case b == '[':
		return r.array()
	case b == '"':
		return String(r.quoted())
	case b == '-' || isDigit(b):
		return r.number()
	}
	return r.word()
}

func (r *reader) word() Value {
	switch {
	case r.takeWord("null"):
		return Null{}
	case r.takeWord("true"):
		return Bool(true)
	case r.takeWord("false"):
		return Bool(false)
	}
	panic(r.fault(errSign))
}

func (r *reader) takeWord(word string) bool {
	if !strings.HasPrefix(r.text[r.at:], word) {
		return false
	}
	r.at += len(word)
	return true
}

func (r *reader) array() Array {
	array := Array{}
	r.several('[', ']', func() {
		array = append(array, r.value())
	})
	return array
}

func (r *reader) object() Object {
	object := Object{}
	r.several('{', '}', func() {
		r.blanks()
		key := r.quoted()
		if _, twice := object[key]; twice {
			panic(r.fault(errTwice))
		}
		r.need(':')
		object[key] = r.value()
	})
	return object
}

// several reads what stands between two signs: none, or one behind the other with commas between.
func (r *reader) several(begin, end byte, one func()) {
	r.need(begin)
	r.depth++
	if r.depth > api.MaxDepth {
		panic(r.fault(errDeep))
	}
	if !r.take(end) {
		one()
		for r.take(',') {
			one()
		}
		r.need(end)
	}
	r.depth--
}

func (r *reader) number() Number {
	minus := r.take('-')
	start := r.at
	var n int64
	for isDigit(r.next()) {
		n = n*10 + int64(r.next()-'0')
		// Asked at each digit: a long row of them would wrap round.
		if n > api.MaxNumber {
			panic(r.fault(errGreat))
		}
		r.at++
	}
	if !isWhole(r.text[start:r.at], minus) {
		panic(r.fault(errNumber))
	}
	if minus {
		n = -n
	}
	return Number(n)
}

func isWhole(digits string, minus bool) bool {
	if digits == "0" {
		return !minus
	}
	return digits != "" && digits[0] != '0'
}

func isDigit(b byte) bool { return '0' <= b && b <= '9' }

func (r *reader) quoted() string {
	if r.next() != '"' {
		panic(r.fault(errSign))
	}
	r.at++
	var out []byte
	for {
		switch b := r.pop(); {
		case b == '"':
			return string(out)
		case b == '\\':
			out = utf8.AppendRune(out, r.escape())
		case b < 0x20:
			panic(r.fault(errControl))
		default:
			out = append(out, b)
		}
	}
}

// escape reads what stands behind a backslash.
func (r *reader) escape() rune {
	switch b := r.pop(); b {
	case '"', '\\', '/':
		return rune(b)
	case 'b':
		return '\b'
	case 'f':
		return '\f'
	case 'n':
		return '\n'
	case 'r':
		return '\r'
	case 't':
		return '\t'
	case 'u':
		return r.unicode()
	}
	panic(r.fault(errEscape))
}

// unicode reads what stands behind \u; two surrogates, each an escape of its own, are one rune.
func (r *reader) unicode() rune {
	first := r.fourDigits()
	if isLow(first) {
		panic(r.fault(errSurrogate))
	}
	if !isHigh(first) {
		return first
	}
	if !r.takeWord(`\u`) {
		panic(r.fault(errSurrogate))
	}
	second := r.fourDigits()
	if !isLow(second) {
		panic(r.fault(errSurrogate))
	}
	return 0x10000 + (first-0xD800)<<10 + (second - 0xDC00)
}

func isHigh(c rune) bool { return 0xD800 <= c && c <= 0xDBFF }

func isLow(c rune) bool { return 0xDC00 <= c && c <= 0xDFFF }

func (r *reader) fourDigits() rune {
	var n rune
	for range 4 {
		n = n<<4 + r.hexDigit()
	}
	return n
}

func (r *reader) hexDigit() rune {
	switch b := r.pop(); {
	case isDigit(b):
		return rune(b - '0')
	case 'a' <= b && b <= 'f':
		return rune(b-'a') + 10
	case 'A' <= b && b <= 'F':
		return rune(b-'A') + 10
	}
	panic(r.fault(errEscape))
}
