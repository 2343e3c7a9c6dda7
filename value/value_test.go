package value

import (
	"errors"
	"slices"
	"strings"
	"testing"
)

func TestParseTellsWhy(t *testing.T) {
	for _, c := range []struct {
		text string
		why  error
	}{
		{"\"\xff\"", errUTF8}, {"\xff", errUTF8}, {"\"\xed\xa0\x80\"", errUTF8},
		{`"a`, errEnd}, {`"\`, errEnd}, {`"\u12`, errEnd},
		{"1 2", errRest}, {"nulll", errRest}, {"1\x00", errRest}, {"[]]", errRest}, {"01", errNumber},
		{"", errSign}, {"[1 2]", errSign}, {"[1,]", errSign}, {`{"a" 1}`, errSign}, {"{1:2}", errSign}, {"tru", errSign}, {"[", errSign}, {"\x00", errSign},
		{"[[[[[[[]]]]]]]", errDeep}, {strings.Repeat("[", 1000), errDeep}, {strings.Repeat(`{"":`, 7), errDeep},
		{"-", errNumber}, {"-0", errNumber}, {"00", errNumber}, {"- 1", errNumber},
		{"9007199254740992", errGreat}, {"-9007199254740992", errGreat}, {strings.Repeat("9", 500), errGreat},
		{"\"\n\"", errControl}, {"\"\x00\"", errControl}, {"\"\x1f\"", errControl},
		{`"\a"`, errEscape}, {`"\u00g0"`, errEscape}, {`"\U0041"`, errEscape},
		{`"\ud83d"`, errSurrogate}, {`"\ude00"`, errSurrogate}, {`"\ud83d\ud83d"`, errSurrogate},
		{`{"a":1,"a":1}`, errTwice}, {`{"a":1,"\u0061":1}`, errTwice},
	} {
		v, err := Parse(c.text)
		var fault *Fault
		if v != nil || !errors.Is(err, c.why) || !errors.As(err, &fault) {
			t.Errorf("Parse(%q) = %v, %v, want %v", c.text, v, err, c.why)
		}
	}
}

func TestEveryPanicIsCaught(t *testing.T) {
	r := &reader{text: "abc", at: 2}
	own := &Fault{At: 1, Cause: errTwice}
	if got := r.caught(own); got != own {
		t.Errorf("%v", got)
	}
	for _, thrown := range []any{"x", errTwice, 1} {
		if got := r.caught(thrown); got.At != 2 || got.Cause != errInside {
			t.Errorf("caught(%v) = %v", thrown, got)
		}
	}
}

func TestFaultTellsTheByte(t *testing.T) {
	_, err := Parse("[1,\t2,x]")
	if err == nil || err.Error() != "at byte 6: another sign must stand here" {
		t.Errorf("%v", err)
	}
	err = CheckUTF8("aé\xff")
	if err == nil || err.Error() != "at byte 3: a byte that is not UTF-8" {
		t.Errorf("%v", err)
	}
}

func TestCheckUTF8(t *testing.T) {
	for _, text := range []string{"", "a", "\x00\x1f\x7f", "é", "\ufffd", "\ud7ff\ue000\uffff", "\U00010000\U0010ffff"} {
		if err := CheckUTF8(text); err != nil {
			t.Errorf("CheckUTF8(%q): %v", text, err)
		}
	}
	for _, text := range []string{"\x80", "\xc3", "\xc0\x80", "\xe0\x80\x80", "\xed\xa0\x80", "\xed\xbf\xbf", "\xf0\x80\x80\x80", "\xf4\x90\x80\x80", "\xf8", "\ufffd\xef\xbf"} {
		if err := CheckUTF8(text); !errors.Is(err, errUTF8) {
			t.Errorf("CheckUTF8(%q): %v", text, err)
		}
	}
}

func TestMembersInOrderAndTillBreak(t *testing.T) {
	object := Object{"b": Null{}, "": Null{}, "a": Null{}, "aa": Null{}, "B": Null{}, "é": Null{}, "~": Null{}}
	want := []string{"", "B", "a", "aa", "b", "~", "é"}
	for range 50 {
		var keys []string
		for key := range object.Members() {
			keys = append(keys, key)
		}
		if !slices.Equal(keys, want) {
			t.Fatalf("%q", keys)
		}
	}
	var keys []string
	for key := range object.Members() {
		keys = append(keys, key)
		if key == "a" {
			break
		}
	}
	if !slices.Equal(keys, want[:3]) {
		t.Errorf("%q", keys)
	}
	for key := range Object(nil).Members() {
		t.Errorf("%q", key)
	}
}

func TestCopiesLeaveTheObject(t *testing.T) {
	object := Object{"a": Number(1), "b": Object{"c": Number(2)}}
	if got := Canon(object.With("a", Null{})); got != `{"a":null,"b":{"c":2}}` {
		t.Error(got)
	}
	if got := Canon(object.With("d", Bool(false))); got != `{"a":1,"b":{"c":2},"d":false}` {
		t.Error(got)
	}
	if got := Canon(object.Without("a", "x")); got != `{"b":{"c":2}}` {
		t.Error(got)
	}
	if got := Canon(object.Child("b")) + Canon(object.Child("a")) + Canon(object.Child("x")); got != `{"c":2}{}{}` {
		t.Error(got)
	}
	if got := Canon(object); got != `{"a":1,"b":{"c":2}}` {
		t.Error(got)
	}
	if got := Canon(Object(nil).With("a", Null{})) + Canon(Object(nil).Without("a")); got != `{"a":null}{}` {
		t.Error(got)
	}
}
