package notary

import (
	"fmt"
	"hash/fnv"
	"strings"
	"sync"
	"testing"

	"notary/api"
)

func wantCanon(t *testing.T, text, want string) {
	t.Helper()
	if got, e := Canon(text); got != want || e != api.OK {
		t.Errorf("Canon(%q) = %q, %d, want %q", text, got, e, want)
	}
}

func wantCanonError(t *testing.T, text string, want api.Errno) {
	t.Helper()
	if got, e := Canon(text); got != "" || e != want {
		t.Errorf("Canon(%q) = %q, %d, want error %d", text, got, e, want)
	}
}

// wrongTexts are no JSON of this kind.
func wrongTexts() []string {
	return []string{
		"", " ", "nul", "nulll", "Null", "TRUE", "falsee", "n ull", "nulltrue", "undefined", "NaN", "Infinity",
		"01", "00", "-0", "-00", "-01", "-", "--1", "+1", "1.0", "1.", ".5", "1e2", "1E2", "0x1", "1_0", "- 1", "1 2", "1,2", "1-", "0-0", "-a", "１",
		"[", "]", "[1", "[1,", "[1,]", "[,1]", "[,]", "[1,,2]", "[1 2]", "[1}", "[1]]", "[1],", "[\"a\":1]", "[nulltrue]",
		"{", "}", `{"a"`, `{"a":`, `{"a":1`, `{"a":1,`, `{"a":1,}`, `{,"a":1}`, `{,}`, `{"a"}`, `{"a":}`, `{"a" 1}`, `{"a"::1}`, `{"a":1 "b":2}`, `{"a":1;"b":2}`, `{"a":1]`, `{"a":1}}`,
		`{a:1}`, `{'a':1}`, `{1:2}`, `{null:1}`, `{[]:1}`, `{"a","b"}`,
		`"`, `"a`, `a"`, `"a""`, `'a'`, `"\`, `"\"`, `"\\\"`, "`a`",
		`"\a"`, `"\v"`, `"\0"`, `"\'"`, `"\x41"`, `"\U0041"`, `"\B"`, `"\ "`, "\"\\\n\"",
		`"\u"`, `"\u1"`, `"\u12"`, `"\u123"`, `"\u 123"`, `"\u-123"`, `"\u+123"`, `"\u12g4"`, `"\u123G"`, `"\u123/"`, `"\u123:"`, `"\u123@"`, "\"\\u123`\"", `"\u{41}"`,
		"/**/1", "1//", "\ufeff1", "\u00a01", "\u20281", "\v1", "\f1", "\x001", "1\x00", "\x85", "\xff",
	}
}

func TestP3CanonOfOrdinaryTexts(t *testing.T) {
	for _, c := range []struct{ text, want string }{
		{"null", "null"}, {"true", "true"}, {"false", "false"}, {"0", "0"}, {"7", "7"}, {"-7", "-7"}, {"10", "10"}, {"-100", "-100"},
		{`""`, `""`}, {`"a b"`, `"a b"`}, {"[]", "[]"}, {"{}", "{}"}, {"[1,2,1]", "[1,2,1]"}, {`[[],{},"",0]`, `[[],{},"",0]`},
		{`{"b":{"d":1,"c":2},"a":[{"f":1,"e":2}]}`, `{"a":[{"e":2,"f":1}],"b":{"c":2,"d":1}}`},
		{` { "b" : [ 1 , null ] , "a":"\u00e9\n" } `, `{"a":"é\n","b":[1,null]}`},
		{`"\ud83d\ude00\/"`, `"😀/"`},
		{`{"b":1,"a":2,"aa":3,"B":4,"":5,"é":6,"~":7,"\uffff":8,"\ud800\udc00":9}`, "{\"\":5,\"B\":4,\"a\":2,\"aa\":3,\"b\":1,\"~\":7,\"é\":6,\"\uffff\":8,\"\U00010000\":9}"},
		{`{"\n":1,"\"":2,"\\":3,"!":4,"\u0000":5}`, `{"\u0000":5,"\n":1,"!":4,"\"":2,"\\":3}`},
		{`"<>&\u003c\u2028\u007f"`, "\"<>&<\u2028\x7f\""},
	} {
		wantCanon(t, c.text, c.want)
	}
}

func TestP3WrongTexts(t *testing.T) {
	for _, text := range wrongTexts() {
		wantCanonError(t, text, api.ErrJSON)
	}
}

func TestP3Length(t *testing.T) {
	wantCanon(t, "1"+strings.Repeat(" ", 599), "1")
	long := `"` + strings.Repeat("a", 598) + `"`
	wantCanon(t, long, long)
	wantCanon(t, `"`+strings.Repeat("é", 299)+`"`, `"`+strings.Repeat("é", 299)+`"`)
	wantCanonError(t, strings.Repeat("[", 600), api.ErrJSON)
	wantCanonError(t, "1"+strings.Repeat(" ", 600), api.ErrLong)
	wantCanonError(t, `"`+strings.Repeat("a", 599)+`"`, api.ErrLong)
	wantCanonError(t, `"`+strings.Repeat("é", 299)+`a"`, api.ErrLong)
	wantCanonError(t, strings.Repeat("x", 601), api.ErrLong)
	wantCanonError(t, strings.Repeat("\xff", 601), api.ErrLong)
	wantCanonError(t, strings.Repeat("[", 1<<20), api.ErrLong)
}

// nested is a text with as many arrays (a bit of shape is 0) and objects (1) within one another as depth says.
func nested(depth int, shape int, inner string) string {
	text := inner
	for i := range depth {
		if shape>>i&1 == 0 {
			text = "[" + text + "]"
		} else {
			text = `{"a":` + text + `}`
		}
	}
	return text
}

func TestP3DepthOfArraysAndObjectsMixed(t *testing.T) {
	for shape := range 1 << 6 {
		for _, inner := range []string{"1", `"[[[["`, "null"} {
			wantCanon(t, nested(6, shape, inner), nested(6, shape, inner))
		}
		for _, inner := range []string{"[]", "{}", "[1]", `{"a":1}`} {
			wantCanon(t, nested(5, shape, inner), nested(5, shape, inner))
			wantCanonError(t, nested(6, shape, inner), api.ErrJSON)
		}
	}
	// Only what is open counts, not what stands beside it.
	deep := nested(5, 0b10101, "1")
	wantCanon(t, "["+deep+","+deep+"]", "["+deep+","+deep+"]")
	wantCanon(t, `{"a":`+deep+`,"b":[],"c":`+deep+`}`, `{"a":`+deep+`,"b":[],"c":`+deep+`}`)
	wantCanonError(t, "[[],["+deep+"]]", api.ErrJSON)
}

func TestP3Numbers(t *testing.T) {
	for _, text := range []string{"9007199254740991", "-9007199254740991", "9007199254740990", "-9007199254740990", "1000000000000000", "8999999999999999"} {
		wantCanon(t, text, text)
	}
	for _, text := range []string{"9007199254740992", "-9007199254740992", "9007199254740993", "10000000000000000", "9223372036854775807", "-9223372036854775808", "18446744073709551616", "18446744073709551617", "-18446744073709551617", strings.Repeat("1", 600), "-" + strings.Repeat("9", 599), "1" + strings.Repeat("0", 64), "[9007199254740992]", `{"a":-9007199254740992}`} {
		wantCanonError(t, text, api.ErrJSON)
	}
}

func TestP3KeysAreAllDifferent(t *testing.T) {
	for _, text := range []string{`{"a":1,"a":1}`, `{"a":1,"\u0061":2}`, `{"\u0061":1,"b":2,"a":3}`, `{"":1,"":2}`, `{"/":1,"\/":2}`, `{"\n":1,"\u000a":2}`, `{"\u00E9":1,"é":2}`, `{"\ud83d\ude00":1,"😀":2}`, `{"\u005C":1,"\\":2}`, `[{"b":{"a":1,"a":2}}]`} {
		wantCanonError(t, text, api.ErrJSON)
	}
	wantCanon(t, `{"a":1,"A":2,"a ":3,"\\u0061":4}`, `{"A":2,"\\u0061":4,"a":1,"a ":3}`)
	wantCanon(t, `[{"a":1},{"a":1}]`, `[{"a":1},{"a":1}]`)
	wantCanon(t, `{"a":{"a":{"a":1}}}`, `{"a":{"a":{"a":1}}}`)
	// The same letter to the eye, but other runes.
	wantCanon(t, `{"e\u0301":1,"é":2}`, "{\"e\u0301\":1,\"é\":2}")
}

// canonicalRune is a rune as canonical JSON has it in a string.
func canonicalRune(r rune) string {
	switch r {
	case '"', '\\':
		return `\` + string(r)
	case '\b':
		return `\b`
	case '\f':
		return `\f`
	case '\n':
		return `\n`
	case '\r':
		return `\r`
	case '\t':
		return `\t`
	}
	if r < 0x20 {
		return fmt.Sprintf(`\u%04x`, r)
	}
	return string(r)
}

func TestP3EveryEscapeOfFourDigits(t *testing.T) {
	for r := rune(0); r <= 0xffff; r++ {
		small, great := fmt.Sprintf(`"\u%04x"`, r), fmt.Sprintf(`"\u%04X"`, r)
		if 0xd800 <= r && r <= 0xdfff {
			wantCanonError(t, small, api.ErrJSON)
			wantCanonError(t, great, api.ErrJSON)
			continue
		}
		wantCanon(t, small, `"`+canonicalRune(r)+`"`)
		wantCanon(t, great, `"`+canonicalRune(r)+`"`)
	}
}

func TestP3EveryByteInAString(t *testing.T) {
	for b := range 256 {
		text := `"` + string([]byte{byte(b)}) + `"`
		switch {
		case b < 0x20, b == '"', b == '\\', b >= 0x80:
			wantCanonError(t, text, api.ErrJSON)
		default:
			wantCanon(t, text, text)
		}
	}
}

func TestP3SurrogatesInEscapes(t *testing.T) {
	for _, c := range []struct {
		text string
		want rune
	}{{`\ud800\udc00`, 0x10000}, {`\uD800\udfff`, 0x103ff}, {`\udbff\uDC00`, 0x10fc00}, {`\uDBFF\uDFFF`, 0x10ffff}, {`\ud83d\uDE00`, 0x1f600}} {
		wantCanon(t, `"`+c.text+`"`, `"`+string(c.want)+`"`)
		wantCanon(t, `{"x`+c.text+`y":1}`, `{"x`+string(c.want)+`y":1}`)
	}
	wantCanon(t, `"\ud7ff\ue000"`, "\"\ud7ff\ue000\"")
	wantCanon(t, `"\\ud800"`, `"\\ud800"`)
	for _, text := range []string{`\ud800`, `\udbff`, `\udc00`, `\udfff`, `\ud800x`, `\ud800 \udc00`, `\ud800\n`, `\ud800\\udc00`, `\ud800\u0041`, `\ud800\ud800`, `\ud800\udbff`, `\ud800\ue000`, `\udbff\ud7ff`, `\udc00\ud800`, `\udc00\udc00`, `\ud7ff\udc00`, `\ue000\udc00`, `\ud800\udc00\udc00`, `\ud800\ud800\udc00`, `\ud800\`, `\ud800\u`, `\ud800\udc0`, `\ud800\Udc00`, `\ud800udc00`, "\\ud800\xed\xb0\x80", "\xed\xa0\x80\\udc00"} {
		wantCanonError(t, `"`+text+`"`, api.ErrJSON)
		wantCanonError(t, `{"`+text+`":1}`, api.ErrJSON)
	}
}

func wrongUTF8() []string {
	return []string{
		"\x80", "\xbf", "\xff", "\xfe", "\xc3", "\xe2\x82", "\xf0\x9f\x98", "é\x80", "\xc3a", "\xe2\x82a",
		"\xc0\x80", "\xc1\xbf", "\xe0\x80\x80", "\xe0\x9f\xbf", "\xf0\x80\x80\x80", "\xf0\x8f\xbf\xbf",
		"\xed\xa0\x80", "\xed\xaf\xbf", "\xed\xb0\x80", "\xed\xbf\xbf", "\xed\xa0\xbd\xed\xb8\x80",
		"\xf4\x90\x80\x80", "\xf5\x80\x80\x80", "\xf8\x88\x80\x80\x80",
	}
}

func TestP3UTF8(t *testing.T) {
	for _, r := range []rune{0x7f, 0x80, 0x7ff, 0x800, 0xd7ff, 0xe000, 0xfffd, 0xfffe, 0xffff, 0x10000, 0x10ffff} {
		wantCanon(t, `"`+string(r)+`"`, `"`+string(r)+`"`)
		wantCanon(t, `{"`+string(r)+`":1}`, `{"`+string(r)+`":1}`)
	}
	for _, bad := range wrongUTF8() {
		wantCanonError(t, `"`+bad+`"`, api.ErrJSON)
		wantCanonError(t, `{"`+bad+`":1}`, api.ErrJSON)
		wantCanonError(t, `["a`+bad+`b"]`, api.ErrJSON)
		wantCanonError(t, "1"+bad, api.ErrJSON)
	}
}

func TestP3Blanks(t *testing.T) {
	signs := []string{"", "{", `"a"`, ":", "[", "1", ",", "null", "]", ",", `"b"`, ":", "{", "}", "}", ""}
	const want = `{"a":[1,null],"b":{}}`
	for _, blank := range []string{"", " ", "\t", "\n", "\r", " \t\r\n "} {
		wantCanon(t, strings.Join(signs, blank), want)
	}
	for _, bad := range []string{"\v", "\f", "\x00", "\u00a0", "\u2028", "\ufeff", "\x08", "\x1f", "\x7f", "#", "_"} {
		for i := range signs {
			text := strings.Join(signs[:i], "") + bad + strings.Join(signs[i:], "")
			wantCanonError(t, text, api.ErrJSON)
		}
	}
	wantCanonError(t, "tr ue", api.ErrJSON)
	wantCanonError(t, "1 0", api.ErrJSON)
	wantCanon(t, "\" \x7f \"", "\" \x7f \"")
}

// otherValues are values that are no objects.
func otherValues() []string {
	return []string{"null", "true", "false", "0", "-1", `""`, `"{}"`, "[]", "[{}]"}
}

func wantMessage(t *testing.T, text, want string, code api.Errno) {
	t.Helper()
	if got, e := Message(text); got != want || e != code {
		t.Errorf("Message(%q) = %q, %d, want %q, %d", text, got, e, want, code)
	}
}

func TestP4Message(t *testing.T) {
	for _, c := range []struct{ text, want string }{
		{"{}", "{}"}, {" { } ", "{}"}, {`{"b":1,"a":2}`, `{"a":2,"b":1}`},
		{`{"z":1,"signatures":{},"unsigned":2,"a":{"unsigned":3}}`, `{"a":{"unsigned":3},"z":1}`},
		{`{"signatures":1}`, "{}"}, {`{"unsigned":null}`, "{}"}, {`{"unsigned":{"a":1},"signatures":{"s":{"k":"x"}}}`, "{}"},
		{`{"\u0073ignatures":1,"unsign\u0065d":2,"a":3}`, `{"a":3}`},
		{`{"Unsigned":1,"SIGNATURES":2,"signature":3,"unsigned ":4,"":5}`, `{"":5,"SIGNATURES":2,"Unsigned":1,"signature":3,"unsigned ":4}`},
		{`{"a":[{"signatures":1,"unsigned":2}],"b":"signatures"}`, `{"a":[{"signatures":1,"unsigned":2}],"b":"signatures"}`},
		{"{" + strings.Repeat(" ", 598) + "}", "{}"},
	} {
		wantMessage(t, c.text, c.want, api.OK)
	}
}

func TestP4Errors(t *testing.T) {
	for _, text := range otherValues() {
		wantMessage(t, text, "", api.ErrObject)
	}
	for _, text := range wrongTexts() {
		wantMessage(t, text, "", api.ErrJSON)
	}
	// What is left out must be JSON of this kind, too.
	wantMessage(t, `{"unsigned":1.5}`, "", api.ErrJSON)
	wantMessage(t, `{"unsigned":1,"unsigned":2}`, "", api.ErrJSON)
	wantMessage(t, `{"signatures":`+nested(6, 0, "")+`}`, "", api.ErrJSON)
	wantMessage(t, "{"+strings.Repeat(" ", 599)+"}", "", api.ErrLong)
	wantMessage(t, "["+strings.Repeat(" ", 599)+"]", "", api.ErrLong)
	wantMessage(t, strings.Repeat("x", 601), "", api.ErrLong)
}

func wantSigned(t *testing.T, text, server, id, sig, want string, code api.Errno) {
	t.Helper()
	if got, e := Signed(text, server, id, sig); got != want || e != code {
		t.Errorf("Signed(%q, %q, %q, %q) = %q, %d, want %q, %d", text, server, id, sig, got, e, want, code)
	}
}

func TestP5Signed(t *testing.T) {
	for _, c := range []struct{ text, server, id, sig, want string }{
		{`{"a":1}`, "s", "k", "x", `{"a":1,"signatures":{"s":{"k":"x"}}}`},
		{" { } ", "", "", "", `{"signatures":{"":{"":""}}}`},
		{`{"z":1,"unsigned":{"b":1,"a":2}}`, "s", "k", "x", `{"signatures":{"s":{"k":"x"}},"unsigned":{"a":2,"b":1},"z":1}`},
		{`{"signatures":{}}`, "s", "k", "x", `{"signatures":{"s":{"k":"x"}}}`},
		{`{"signatures":{"s":{}}}`, "s", "k", "x", `{"signatures":{"s":{"k":"x"}}}`},
		{`{"signatures":{"s":{"k":"old"}}}`, "s", "k", "x", `{"signatures":{"s":{"k":"x"}}}`},
		{`{"signatures":{"s":{"k":{"a":1}}}}`, "s", "k", "x", `{"signatures":{"s":{"k":"x"}}}`},
		{`{"signatures":{"t":{"k":"y"},"s":{"l":"z","j":[3]},"u":5}}`, "s", "k", "x", `{"signatures":{"s":{"j":[3],"k":"x","l":"z"},"t":{"k":"y"},"u":5}}`},
		{`{"signatures":{"S":{"K":"y"}}}`, "s", "k", "x", `{"signatures":{"S":{"K":"y"},"s":{"k":"x"}}}`},
		{`{"\u0073ignatures":{"\u0073":{"\u006b":1}}}`, "s", "k", "x", `{"signatures":{"s":{"k":"x"}}}`},
		{`{"a":{"signatures":1}}`, "signatures", "unsigned", "x", `{"a":{"signatures":1},"signatures":{"signatures":{"unsigned":"x"}}}`},
		{"{}", "\x00\"\\/", "\b\f\n\r\t\x1f\x7f", "é😀\ufffd", "{\"signatures\":{\"\\u0000\\\"\\\\/\":{\"\\b\\f\\n\\r\\t\\u001f\x7f\":\"é😀\ufffd\"}}}"},
	} {
		wantSigned(t, c.text, c.server, c.id, c.sig, c.want, api.OK)
	}
}

func TestP5WhatIsNoObjectGivesWay(t *testing.T) {
	const want = `{"signatures":{"s":{"k":"x"}}}`
	for _, other := range otherValues() {
		wantSigned(t, `{"signatures":`+other+`}`, "s", "k", "x", want, api.OK)
		wantSigned(t, `{"signatures":{"s":`+other+`}}`, "s", "k", "x", want, api.OK)
		wantSigned(t, `{"signatures":{"s":{"k":`+other+`}}}`, "s", "k", "x", want, api.OK)
		wantSigned(t, `{"signatures":{"t":`+other+`}}`, "s", "k", "x", `{"signatures":{"s":{"k":"x"},"t":`+other+`}}`, api.OK)
	}
}

func TestP5LengthAndDepth(t *testing.T) {
	long := strings.Repeat("n", 5000)
	wantSigned(t, "{"+strings.Repeat(" ", 598)+"}", long, long, long, `{"signatures":{"`+long+`":{"`+long+`":"`+long+`"}}}`, api.OK)
	deep := nested(5, 0b01010, "1")
	wantSigned(t, `{"a":`+deep+`}`, "s", "k", "x", `{"a":`+deep+`,"signatures":{"s":{"k":"x"}}}`, api.OK)
}

func TestP5Errors(t *testing.T) {
	for _, text := range otherValues() {
		wantSigned(t, text, "s", "k", "x", "", api.ErrObject)
	}
	for _, text := range wrongTexts() {
		wantSigned(t, text, "s", "k", "x", "", api.ErrJSON)
	}
	wantSigned(t, "{"+strings.Repeat(" ", 599)+"}", "s", "k", "x", "", api.ErrLong)
	for _, bad := range wrongUTF8() {
		wantSigned(t, "{}", bad, "k", "x", "", api.ErrJSON)
		wantSigned(t, "{}", "s", "a"+bad, "x", "", api.ErrJSON)
		wantSigned(t, "{}", "s", "k", bad+"b", "", api.ErrJSON)
		wantSigned(t, "{}", bad, bad, bad, "", api.ErrJSON)
		// The errors of Message come first.
		wantSigned(t, "[]", bad, "k", "x", "", api.ErrObject)
		wantSigned(t, "null", "s", bad, "x", "", api.ErrObject)
		wantSigned(t, "1", "s", "k", bad, "", api.ErrObject)
		wantSigned(t, "{", bad, "k", "x", "", api.ErrJSON)
		wantSigned(t, strings.Repeat("x", 601), bad, bad, bad, "", api.ErrLong)
	}
}

func TestP6Seal(t *testing.T) {
	for _, c := range []struct{ key, message, want string }{
		{"K", "{}", "1b4294d4"}, {"", "", "0f0c6cdd"}, {"J", `{"origin":"s","ts":90}`, "78763df6"},
	} {
		if got := Seal(c.key, c.message); got != c.want {
			t.Errorf("Seal(%q, %q) = %q, want %q", c.key, c.message, got, c.want)
		}
	}
	parts := []string{"", "a", "\n", "ab\n", "\x00", "\xff\x80", "é", strings.Repeat("long", 1000)}
	for i := range 200 {
		parts = append(parts, strings.Repeat("x", i)+string([]byte{byte(i)}))
	}
	for _, key := range parts {
		for _, message := range parts {
			sum := fnv.New32a()
			sum.Write([]byte(key + "\n" + message))
			if got, want := Seal(key, message), fmt.Sprintf("%08x", sum.Sum32()); got != want {
				t.Fatalf("Seal(%q, %q) = %q, want %q", key, message, got, want)
			}
		}
	}
}

// The keys of a map come in another order each time; goroutines come in any.
func TestP2AnswersDependOnArgumentsAlone(t *testing.T) {
	var members []string
	for i := range 50 {
		members = append(members, fmt.Sprintf(`"%02d":%d`, i, i))
	}
	var turned []string
	for _, member := range members {
		turned = append([]string{member}, turned...)
	}
	sorted := strings.Join(members, ",")
	text := "{" + strings.Join(turned, ", ") + "}"
	var all sync.WaitGroup
	for range 8 {
		all.Go(func() {
			for range 50 {
				wantCanon(t, text, "{"+sorted+"}")
				wantMessage(t, text, "{"+sorted+"}", api.OK)
				wantSigned(t, text, "s", "k", "x", "{"+sorted+`,"signatures":{"s":{"k":"x"}}}`, api.OK)
				wantCanonError(t, text[1:], api.ErrJSON)
			}
		})
	}
	all.Wait()
}
