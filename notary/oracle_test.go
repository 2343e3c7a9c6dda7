package notary

import (
	"encoding/json"
	"fmt"
	"maps"
	"math/rand/v2"
	"regexp"
	"slices"
	"strconv"
	"strings"
	"testing"
	"unicode/utf8"

	"notary/api"
)

// The oracle tells by the library's JSON, which takes more than this program does, what Canon must answer.

var (
	wholeNumber   = regexp.MustCompile(`^(0|-?[1-9][0-9]*)$`)
	surrogatePair = regexp.MustCompile(`\\u[dD][89abAB][0-9a-fA-F]{2}\\u[dD][c-fC-F][0-9a-fA-F]{2}`)
	surrogate     = regexp.MustCompile(`\\u[dD][89a-fA-F]`)
)

func oracle(text string) (string, api.Errno) {
	if len(text) > 600 {
		return "", api.ErrLong
	}
	escapes := strings.ReplaceAll(text, `\\`, "")
	if !utf8.ValidString(text) || !json.Valid([]byte(text)) || surrogate.MatchString(surrogatePair.ReplaceAllString(escapes, "_")) {
		return "", api.ErrJSON
	}
	tokens := json.NewDecoder(strings.NewReader(text))
	tokens.UseNumber()
	out, ok := oracleValue(tokens, 0)
	if !ok {
		return "", api.ErrJSON
	}
	return out, api.OK
}

func oracleValue(tokens *json.Decoder, depth int) (string, bool) {
	token, err := tokens.Token()
	if err != nil {
		return "", false
	}
	switch x := token.(type) {
	case nil:
		return "null", true
	case bool:
		return fmt.Sprint(x), true
	case json.Number:
		n, err := strconv.ParseInt(x.String(), 10, 64)
		return x.String(), err == nil && wholeNumber.MatchString(x.String()) && n < 1<<53 && n > -1<<53
	case string:
		return oracleString(x), true
	case json.Delim:
		if depth == 6 {
			return "", false
		}
		if x == '[' {
			return oracleArray(tokens, depth+1)
		}
		return oracleObject(tokens, depth+1)
	}
	return "", false
}

func oracleArray(tokens *json.Decoder, depth int) (string, bool) {
	var parts []string
	for tokens.More() {
		part, ok := oracleValue(tokens, depth)
		if !ok {
			return "", false
		}
		parts = append(parts, part)
	}
	_, err := tokens.Token()
	return "[" + strings.Join(parts, ",") + "]", err == nil
}

func oracleObject(tokens *json.Decoder, depth int) (string, bool) {
	members := map[string]string{}
	for tokens.More() {
		key, err := tokens.Token()
		if err != nil {
			return "", false
		}
		part, ok := oracleValue(tokens, depth)
		if _, twice := members[key.(string)]; twice || !ok {
			return "", false
		}
		members[key.(string)] = part
	}
	_, err := tokens.Token()
	var parts []string
	for _, key := range slices.Sorted(maps.Keys(members)) {
		parts = append(parts, oracleString(key)+":"+members[key])
	}
	return "{" + strings.Join(parts, ",") + "}", err == nil
}

func oracleString(text string) string {
	var out strings.Builder
	for _, r := range text {
		out.WriteString(canonicalRune(r))
	}
	return `"` + out.String() + `"`
}

// checkText holds every call of a text against the oracle (P1, P3, P4, P5, P7, P12).
func checkText(t *testing.T, text string) {
	t.Helper()
	want, code := oracle(text)
	got, e := Canon(text)
	if got != want || e != code {
		t.Fatalf("Canon(%q) = %q, %d, want %q, %d", text, got, e, want, code)
	}
	if e == api.OK {
		wantCanon(t, got, got)
		if !strings.HasPrefix(got, "{") {
			code = api.ErrObject
		}
	}
	message, e := Message(text)
	if e != code || (e == api.OK) != (message != "") {
		t.Fatalf("Message(%q) = %q, %d, want %d", text, message, e, code)
	}
	signed, e := Signed(text, "s", "k", "x")
	if e != code || (e == api.OK) != (signed != "") {
		t.Fatalf("Signed(%q) = %q, %d, want %d", text, signed, e, code)
	}
	if e == api.OK && len(signed) <= 600 {
		wantMessage(t, signed, message, api.OK)
		wantSigned(t, signed, "s", "k", "x", signed, api.OK)
	}
	checkRead(t, text)
	checkVerify(t, text)
}

func seeds() []string {
	return append(wrongTexts(),
		` { "b" : [ 1 , null ] , "a":"\u00e9\n" } `, `"\ud83d\ude00\/"`, `{"a":1,"\u0061":2}`, "9007199254740991", "-9007199254740991",
		`{"z":1,"signatures":{},"unsigned":2,"a":{"unsigned":3}}`, `{"signatures":{"t":1,"s":{"k":2,"j":3}},"unsigned":4}`,
		`{"old_verify_keys":{"k0":{"expired_ts":90,"key":"J"}},"server_name":"s","signatures":{"s":{"k1":"d691c21c"}},"valid_until_ts":500,"verify_keys":{"k1":{"key":"K"}}}`,
		`{"origin":"s","signatures":{"s":{"k0":"78763df6"}},"ts":90}`, `[[[[[[1]]]]]]`, `{"a":{"a":{"a":{"a":{"a":[]}}}}}`,
		`"\"\\\/\b\f\n\r\t\u0000\u001f\u007f\uffff"`, "\"é😀\ufffd\x7f\"", "[true,false,null,0,-1,\"\",[],{}]")
}

// mutate changes a text here and there, mostly into what has a meaning in JSON.
func mutate(random *rand.Rand, text string) string {
	pieces := []string{"", "", " ", "\t", "[", "]", "{", "}", ",", ":", `"`, `\`, `\u`, `\ud83d`, `\ude00`, `\n`, "0", "1", "-", "9", ".", "e", "a", "null", "true", `"a":`, "\x00", "\x1f", "\x7f", "\x80", "\xed\xa0\x80", "é", "😀", "9007199254740991", strings.Repeat(" ", 300)}
	for range 1 + random.IntN(3) {
		from := random.IntN(len(text) + 1)
		to := min(len(text), from+random.IntN(3))
		text = text[:from] + pieces[random.IntN(len(pieces))] + text[to:]
	}
	return text
}

func TestMutatedTextsAsTheOracleTells(t *testing.T) {
	t.Parallel()
	random := rand.New(rand.NewPCG(1, 2))
	texts := seeds()
	for range 60000 {
		checkText(t, mutate(random, texts[random.IntN(len(texts))]))
	}
}

// messy writes a random value with blanks and escapes that canonical JSON has not.
func messy(random *rand.Rand, depth int) string {
	blank := func() string { return strings.Repeat([]string{" ", "\t", "\r", "\n"}[random.IntN(4)], random.IntN(2)) }
	kind := random.IntN(7)
	if depth == 0 {
		kind = random.IntN(5)
	}
	var out string
	switch kind {
	case 0, 1, 2:
		out = []string{"null", "true", "false"}[kind]
	case 3:
		out = strconv.FormatInt(random.Int64N(1<<54+100)-1<<53-50, 10)
	case 4:
		out = messyString(random)
	default:
		var parts []string
		for range random.IntN(4) {
			part := messy(random, depth-1)
			if kind == 6 {
				part = blank() + messyString(random) + blank() + ":" + part
			}
			parts = append(parts, part)
		}
		out = strings.Join(parts, ",") + blank()
		if kind == 6 {
			out = "{" + out + "}"
		} else {
			out = "[" + out + "]"
		}
	}
	return blank() + out + blank()
}

func messyString(random *rand.Rand) string {
	pieces := []string{"a", "b", "A", " ", "~", "é", "😀", "\x7f", `\u0061`, `\u00E9`, `\/`, "/", `\b`, `\u0008`, `\f`, `\n`, `\u000A`, `\r`, `\t`, `\"`, `\u0022`, `\\`, `\u005c`, `\u001F`, `\u0000`, `\ud83d\ude00`, `\uD7FF`, `\uE000`, `\uFFFF`}
	var out string
	for range random.IntN(4) {
		out += pieces[random.IntN(len(pieces))]
	}
	return `"` + out + `"`
}

func TestMessyTextsAsTheOracleTells(t *testing.T) {
	t.Parallel()
	random := rand.New(rand.NewPCG(3, 4))
	good := 0
	for range 20000 {
		text := messy(random, 1+random.IntN(6))
		checkText(t, text)
		if _, e := Canon(text); e == api.OK {
			good++
		}
	}
	if good < 5000 {
		t.Errorf("only %d texts are JSON of this kind", good)
	}
}

// P1: no call panics; go test -fuzz goes beyond the seeds.
func FuzzText(f *testing.F) {
	for _, text := range seeds() {
		f.Add(text)
	}
	f.Fuzz(checkText)
}

func FuzzSignedNames(f *testing.F) {
	f.Add("{}", "s", "k", "x")
	f.Add("{}", "\xff", "k", "x")
	f.Add("{}", "s", "\n\"\\\x00", "é")
	f.Add("[]", "s", "k", "\xed\xa0\x80")
	f.Fuzz(func(t *testing.T, text, server, id, sig string) {
		signed, e := Signed(text, server, id, sig)
		_, code := Message(text)
		if code == api.OK && !(utf8.ValidString(server) && utf8.ValidString(id) && utf8.ValidString(sig)) {
			code = api.ErrJSON
		}
		if e != code {
			t.Fatalf("%d, want %d", e, code)
		}
		stands := oracleString(server) + ":{"
		if e == api.OK && !(strings.Contains(signed, stands) && strings.Contains(signed, oracleString(id)+":"+oracleString(sig))) || e != api.OK && signed != "" {
			t.Fatalf("%q", signed)
		}
	})
}
