package notary

import (
	"fmt"
	"reflect"
	"strings"
	"sync"
	"testing"

	"notary/api"
)

const exampleDocument = `{"old_verify_keys":{"k0":{"expired_ts":90,"key":"J"}},"server_name":"s","signatures":{"s":{"k1":"d691c21c"}},"valid_until_ts":500,"verify_keys":{"k1":{"key":"K"}}}`

// plainDocument is a document that lacks its signature alone, which is that of the key K under a for the server s.
const plainDocument = `{"server_name":"s","valid_until_ts":5,"verify_keys":{"a":{"key":"K"}},"old_verify_keys":{"b":{"key":"J","expired_ts":3}}}`

// signedBy is the text with the signatures of these keys (names and keys in turns) for the server.
func signedBy(t *testing.T, text, server string, keys ...string) string {
	t.Helper()
	message, e := Message(text)
	if e != api.OK {
		t.Fatalf("Message(%q): %d", text, e)
	}
	for i := 0; i < len(keys); i += 2 {
		if text, e = Signed(text, server, keys[i], Seal(keys[i+1], message)); e != api.OK {
			t.Fatalf("Signed: %d", e)
		}
	}
	return text
}

// changed is the plain document with one piece in another's place; that piece must stand there.
func changed(t *testing.T, old, now string) string {
	t.Helper()
	if !strings.Contains(plainDocument, old) {
		t.Fatalf("%q does not stand in the plain document", old)
	}
	return strings.Replace(plainDocument, old, now, 1)
}

func wantDocument(t *testing.T, text string, want api.Document) {
	t.Helper()
	if got, e := Read(text); e != api.OK || !reflect.DeepEqual(got, want) {
		t.Errorf("Read(%q) = %+v, %d, want %+v", text, got, e, want)
	}
}

func wantNoDocument(t *testing.T, text string, want api.Errno) {
	t.Helper()
	if got, e := Read(text); e != want || !reflect.DeepEqual(got, api.Document{}) {
		t.Errorf("Read(%q) = %+v, %d, want error %d", text, got, e, want)
	}
}

func TestP7Documents(t *testing.T) {
	wantDocument(t, exampleDocument, api.Document{Server: "s", Until: 500, Keys: []api.Key{{ID: "k0", Key: "J", Old: true, Till: 90}, {ID: "k1", Key: "K", Till: 500}}})
	wantDocument(t, " \n"+strings.ReplaceAll(exampleDocument, ":", " : ")+"\t", api.Document{Server: "s", Until: 500, Keys: []api.Key{{ID: "k0", Key: "J", Old: true, Till: 90}, {ID: "k1", Key: "K", Till: 500}}})
	wantDocument(t, signedBy(t, plainDocument, "s", "a", "K"), api.Document{Server: "s", Until: 5, Keys: []api.Key{{ID: "a", Key: "K", Till: 5}, {ID: "b", Key: "J", Old: true, Till: 3}}})
	// An old key may be trusted longer than the document, and may be the same key under another name.
	wantDocument(t, signedBy(t, `{"server_name":"s","valid_until_ts":0,"verify_keys":{"b":{"key":""}},"old_verify_keys":{"a":{"key":"","expired_ts":9007199254740991}}}`, "s", "b", ""),
		api.Document{Server: "s", Keys: []api.Key{{ID: "a", Old: true, Till: 9007199254740991}, {ID: "b"}}})
	wantDocument(t, signedBy(t, `{"server_name":"s","valid_until_ts":9007199254740991,"verify_keys":{"b":{"key":"K"}},"old_verify_keys":{"a":{"key":"J","expired_ts":0}}}`, "s", "b", "K"),
		api.Document{Server: "s", Until: 9007199254740991, Keys: []api.Key{{ID: "a", Key: "J", Old: true}, {ID: "b", Key: "K", Till: 9007199254740991}}})
	wantDocument(t, signedBy(t, `{"server_name":"\u0073\n","valid_until_ts":1,"verify_keys":{"\u00e9\"":{"key":"\u004b\\\ud83d\ude00"}}}`, "s\n", "é\"", `K\😀`),
		api.Document{Server: "s\n", Until: 1, Keys: []api.Key{{ID: "é\"", Key: `K\😀`, Till: 1}}})
	long := strings.Repeat("k", 300)
	wantDocument(t, signedBy(t, `{"server_name":"s","valid_until_ts":1,"verify_keys":{"a":{"key":"`+long+`"}}}`, "s", "a", long),
		api.Document{Server: "s", Until: 1, Keys: []api.Key{{ID: "a", Key: long, Till: 1}}})
}

func TestP7OldKeysMayBeLacking(t *testing.T) {
	want := api.Document{Server: "s", Until: 5, Keys: []api.Key{{ID: "a", Key: "K", Till: 5}}}
	wantDocument(t, signedBy(t, changed(t, `,"old_verify_keys":{"b":{"key":"J","expired_ts":3}}`, ""), "s", "a", "K"), want)
	wantDocument(t, signedBy(t, changed(t, `{"b":{"key":"J","expired_ts":3}}`, "{}"), "s", "a", "K"), want)
}

func TestP7KeysByTheBytesOfTheirNames(t *testing.T) {
	text := `{"server_name":"s","valid_until_ts":7,"verify_keys":{"é":{"key":"1"},"b":{"key":"2"},"B":{"key":"3"},"ab":{"key":"4"}},"old_verify_keys":{"~":{"key":"5","expired_ts":1},"a":{"key":"6","expired_ts":2},"A":{"key":"7","expired_ts":9},"\uffff":{"key":"8","expired_ts":3},"\ud83d\ude00":{"key":"9","expired_ts":4},"c":{"key":"0","expired_ts":5}}}`
	text = signedBy(t, text, "s", "é", "1", "b", "2", "B", "3", "ab", "4")
	want := api.Document{Server: "s", Until: 7, Keys: []api.Key{
		{ID: "A", Key: "7", Old: true, Till: 9}, {ID: "B", Key: "3", Till: 7}, {ID: "a", Key: "6", Old: true, Till: 2}, {ID: "ab", Key: "4", Till: 7}, {ID: "b", Key: "2", Till: 7}, {ID: "c", Key: "0", Old: true, Till: 5},
		{ID: "~", Key: "5", Old: true, Till: 1}, {ID: "é", Key: "1", Till: 7}, {ID: "\uffff", Key: "8", Old: true, Till: 3}, {ID: "😀", Key: "9", Old: true, Till: 4},
	}}
	for range 50 {
		wantDocument(t, text, want)
	}
}

// valuesBut are values of every kind but one.
func valuesBut(kind string) []string {
	var values []string
	for _, v := range []struct{ kind, text string }{{"null", "null"}, {"bool", "true"}, {"bool", "false"}, {"number", "0"}, {"number", "1"}, {"string", `""`}, {"string", `"K"`}, {"string", `"5"`}, {"array", "[]"}, {"array", `["K"]`}, {"array", `[{"key":"K"}]`}, {"object", "{}"}, {"object", `{"key":"K"}`}} {
		if v.kind != kind {
			values = append(values, v.text)
		}
	}
	return values
}

func TestP7MembersOfAnotherKind(t *testing.T) {
	for _, c := range []struct{ member, value, kind string }{
		{`"server_name":`, `"s"`, "string"},
		{`"valid_until_ts":`, "5", "number"},
		{`"verify_keys":`, `{"a":{"key":"K"}}`, "object"},
		{`"a":`, `{"key":"K"}`, "object"},
		{`"key":`, `"K"`, "string"},
		{`"old_verify_keys":`, `{"b":{"key":"J","expired_ts":3}}`, "object"},
		{`"b":`, `{"key":"J","expired_ts":3}`, "object"},
		{`"key":`, `"J"`, "string"},
		{`"expired_ts":`, "3", "number"},
	} {
		for _, other := range valuesBut(c.kind) {
			wantNoDocument(t, signedBy(t, changed(t, c.member+c.value, c.member+other), "s", "a", "K"), api.ErrDocument)
		}
	}
}

func TestP7MembersThatAreMissing(t *testing.T) {
	for _, piece := range []string{`"server_name":"s",`, `"valid_until_ts":5,`, `"verify_keys":{"a":{"key":"K"}},`, `"a":{"key":"K"}`, `"key":"K"`, `"key":"J",`, `,"expired_ts":3`, `"key":"J","expired_ts":3`} {
		wantNoDocument(t, signedBy(t, changed(t, piece, ""), "s", "a", "K"), api.ErrDocument)
	}
	for _, c := range []struct{ old, now string }{{"server_name", "Server_name"}, {"valid_until_ts", "valid_until"}, {`"verify_keys":{"a"`, `"verify_key":{"a"`}, {`"key":"K"`, `"Key":"K"`}, {`"key":"J"`, `"kay":"J"`}, {"expired_ts", "valid_until_ts"}} {
		wantNoDocument(t, signedBy(t, changed(t, c.old, c.now), "s", "a", "K"), api.ErrDocument)
	}
	// One that is right does not make up for one that is not.
	for _, bad := range []string{"1", "{}", `{"key":1}`, "null"} {
		wantNoDocument(t, signedBy(t, changed(t, `"a":{"key":"K"}`, `"a":{"key":"K"},"c":`+bad), "s", "a", "K"), api.ErrDocument)
		wantNoDocument(t, signedBy(t, changed(t, `"a":{"key":"K"}`, `"A":`+bad+`,"a":{"key":"K"}`), "s", "a", "K"), api.ErrDocument)
		wantNoDocument(t, signedBy(t, changed(t, `"b":{`, `"c":`+bad+`,"b":{`), "s", "a", "K"), api.ErrDocument)
		wantNoDocument(t, signedBy(t, changed(t, `"b":{`, `"B":`+bad+`,"b":{`), "s", "a", "K"), api.ErrDocument)
	}
	wantNoDocument(t, signedBy(t, changed(t, `"b":{`, `"c":{"key":"L"},"b":{`), "s", "a", "K"), api.ErrDocument)
	wantNoDocument(t, signedBy(t, changed(t, `"b":{`, `"c":{"expired_ts":1},"b":{`), "s", "a", "K"), api.ErrDocument)
}

func TestP7MomentsBelowZero(t *testing.T) {
	for _, below := range []string{"-1", "-5", "-9007199254740991"} {
		wantNoDocument(t, signedBy(t, changed(t, ":5", ":"+below), "s", "a", "K"), api.ErrDocument)
		wantNoDocument(t, signedBy(t, changed(t, ":3", ":"+below), "s", "a", "K"), api.ErrDocument)
	}
}

func TestP7Names(t *testing.T) {
	for _, name := range []string{"n", " ", "/", "0", "é", "twenty bytes of name", strings.Repeat("é", 10), strings.Repeat("😀", 5)} {
		wantDocument(t, signedBy(t, changed(t, `"s"`, `"`+name+`"`), name, "a", "K"), api.Document{Server: name, Until: 5, Keys: []api.Key{{ID: "a", Key: "K", Till: 5}, {ID: "b", Key: "J", Old: true, Till: 3}}})
		text := changed(t, `,"old_verify_keys":{"b":{"key":"J","expired_ts":3}}`, "")
		text = strings.Replace(text, `"a"`, `"`+name+`"`, 1)
		wantDocument(t, signedBy(t, text, "s", name, "K"), api.Document{Server: "s", Until: 5, Keys: []api.Key{{ID: name, Key: "K", Till: 5}}})
		text = strings.Replace(changed(t, `"a"`, `"\u0000"`), `"b"`, `"`+name+`"`, 1)
		wantDocument(t, signedBy(t, text, "s", "\x00", "K"), api.Document{Server: "s", Until: 5, Keys: []api.Key{{ID: "\x00", Key: "K", Till: 5}, {ID: name, Key: "J", Old: true, Till: 3}}})
	}
	for _, name := range []string{"", "twenty-one bytes long", strings.Repeat("é", 10) + "a", strings.Repeat("é", 11), strings.Repeat("😀", 6), strings.Repeat("n", 200)} {
		wantNoDocument(t, signedBy(t, changed(t, `"s"`, `"`+name+`"`), name, "a", "K"), api.ErrDocument)
		wantNoDocument(t, signedBy(t, changed(t, `"a"`, `"`+name+`"`), "s", name, "K"), api.ErrDocument)
		wantNoDocument(t, signedBy(t, changed(t, `"b"`, `"`+name+`"`), "s", "a", "K"), api.ErrDocument)
		wantNoDocument(t, signedBy(t, changed(t, `"a":{"key":"K"}`, `"a":{"key":"K"},"`+name+`":{"key":"L"}`), "s", "a", "K", name, "L"), api.ErrDocument)
	}
}

// manyKeys are the members of a list, and the names and keys for signedBy.
func manyKeys(count int, prefix, rest string) (string, []string) {
	var members, keys []string
	for i := range count {
		members = append(members, fmt.Sprintf(`"%s%d":{"key":"K%d"%s}`, prefix, i, i, rest))
		keys = append(keys, fmt.Sprint(prefix, i), fmt.Sprint("K", i))
	}
	return strings.Join(members, ","), keys
}

func TestP7HowManyKeys(t *testing.T) {
	for count := range 7 {
		members, keys := manyKeys(count, "k", "")
		text := signedBy(t, changed(t, `"a":{"key":"K"}`, members), "s", keys...)
		if count == 0 || count > 4 {
			wantNoDocument(t, text, api.ErrDocument)
			continue
		}
		want := api.Document{Server: "s", Until: 5, Keys: []api.Key{{ID: "b", Key: "J", Old: true, Till: 3}}}
		for i := range count {
			want.Keys = append(want.Keys, api.Key{ID: keys[2*i], Key: keys[2*i+1], Till: 5})
		}
		wantDocument(t, text, want)
	}
	// Of old keys there is no such bound.
	for count := range 10 {
		members, keys := manyKeys(count, "o", `,"expired_ts":3`)
		want := api.Document{Server: "s", Until: 5, Keys: []api.Key{{ID: "a", Key: "K", Till: 5}}}
		for i := range count {
			want.Keys = append(want.Keys, api.Key{ID: keys[2*i], Key: keys[2*i+1], Old: true, Till: 3})
		}
		wantDocument(t, signedBy(t, changed(t, `"b":{"key":"J","expired_ts":3}`, members), "s", "a", "K"), want)
	}
	inUse, keys := manyKeys(4, "k", "")
	old, _ := manyKeys(4, "o", `,"expired_ts":3`)
	text := strings.Replace(changed(t, `"a":{"key":"K"}`, inUse), `"b":{"key":"J","expired_ts":3}`, old, 1)
	if d, e := Read(signedBy(t, text, "s", keys...)); e != api.OK || len(d.Keys) != 8 {
		t.Errorf("%+v, %d", d, e)
	}
}

func TestP7NoNameInBothLists(t *testing.T) {
	for _, old := range []string{`"a":{"key":"J","expired_ts":3}`, `"a":{"key":"K","expired_ts":5}`, `"\u0061":{"key":"K","expired_ts":3}`, `"A":{"key":"1","expired_ts":1},"a":{"key":"J","expired_ts":3},"b":{"key":"1","expired_ts":1}`} {
		wantNoDocument(t, signedBy(t, changed(t, `"b":{"key":"J","expired_ts":3}`, old), "s", "a", "K"), api.ErrDocument)
	}
	for _, name := range []string{"k0", "k1", "k2", "k3"} {
		members, keys := manyKeys(4, "k", "")
		text := strings.Replace(changed(t, `"b"`, `"`+name+`"`), `"a":{"key":"K"}`, members, 1)
		wantNoDocument(t, signedBy(t, text, "s", keys...), api.ErrDocument)
	}
}

func TestP7OtherMembersMayBeThere(t *testing.T) {
	want := api.Document{Server: "s", Until: 5, Keys: []api.Key{{ID: "a", Key: "K", Till: 5}, {ID: "b", Key: "J", Old: true, Till: 3}}}
	for _, other := range append(otherValues(), `{"key":"L"}`, "-5") {
		wantDocument(t, signedBy(t, changed(t, "{", `{"more":`+other+`,"":1,`), "s", "a", "K"), want)
		wantDocument(t, signedBy(t, changed(t, "{", `{"expired_ts":`+other+`,"key":`+other+`,"unsigned":`+other+`,`), "s", "a", "K"), want)
		wantDocument(t, signedBy(t, changed(t, `{"key":"K"`, `{"expired_ts":`+other+`,"signatures":`+other+`,"key":"K"`), "s", "a", "K"), want)
		wantDocument(t, signedBy(t, changed(t, `{"key":"J"`, `{"valid_until_ts":`+other+`,"unsigned":`+other+`,"key":"J"`), "s", "a", "K"), want)
		// Of the signatures only those count that are asked for.
		wantDocument(t, signedBy(t, changed(t, "{", `{"signatures":{"t":`+other+`,"s":{"b":`+other+`,"c":`+other+`}},`), "s", "a", "K"), want)
	}
}

func TestP7SignaturesMissingOrWrong(t *testing.T) {
	good := signedBy(t, plainDocument, "s", "a", "K")
	message, _ := Message(plainDocument)
	sig := Seal("K", message)
	with := func(signatures string) string { return changed(t, "{", `{"signatures":`+signatures+`,`) }
	wantDocument(t, with(`{"s":{"a":"`+sig+`"}}`), api.Document{Server: "s", Until: 5, Keys: []api.Key{{ID: "a", Key: "K", Till: 5}, {ID: "b", Key: "J", Old: true, Till: 3}}})
	texts := []string{
		plainDocument, with("{}"), with(`{"s":{}}`), with(`{"a":"` + sig + `"}`), with(`{"s":"` + sig + `"}`), with(`{"s":["` + sig + `"]}`), with(`{"s":{"a":["` + sig + `"]}}`), with(`{"s":{"a":{"a":"` + sig + `"}}}`),
		with(`{"t":{"a":"` + sig + `"}}`), with(`{"S":{"a":"` + sig + `"}}`), with(`{"s":{"A":"` + sig + `"}}`), with(`{"s":{"b":"` + sig + `"}}`), with(`{"":{"a":"` + sig + `"}}`),
		with(`{"s":{"a":""}}`), with(`{"s":{"a":"` + strings.ToUpper(sig) + `"}}`), with(`{"s":{"a":"` + sig + ` "}}`), with(`{"s":{"a":" ` + sig + `"}}`), with(`{"s":{"a":"` + sig[:7] + `"}}`), with(`{"s":{"a":"` + sig + `0"}}`), with(`{"s":{"a":"K"}}`),
		signedBy(t, plainDocument, "s", "b", "J"), signedBy(t, plainDocument, "s", "a", "J"), signedBy(t, plainDocument, "s", "a", "k"), signedBy(t, plainDocument, "s", "a", ""), signedBy(t, plainDocument, "t", "a", "K"), signedBy(t, plainDocument, "s", "b", "K"),
		strings.Replace(good, ":5", ":6", 1), strings.Replace(good, ":3", ":4", 1), strings.Replace(good, `"key":"J"`, `"key":"I"`, 1), strings.Replace(good, `"key":"K"`, `"key":"L"`, 1), strings.Replace(good, "{", `{"more":1,`, 1),
	}
	for _, other := range otherValues() {
		texts = append(texts, with(other), with(`{"s":`+other+`}`), with(`{"s":{"a":`+other+`}}`))
	}
	for _, text := range texts {
		wantNoDocument(t, text, api.ErrSignature)
	}
	// Blanks, unsigned and signatures are no part of what is signed.
	wantDocument(t, strings.Replace(good, "{", ` { "unsigned" : 7 , `, 1), api.Document{Server: "s", Until: 5, Keys: []api.Key{{ID: "a", Key: "K", Till: 5}, {ID: "b", Key: "J", Old: true, Till: 3}}})
	whole, _ := Canon(plainDocument[:len(plainDocument)-1] + `,"unsigned":7}`)
	wantNoDocument(t, strings.Replace(whole, "{", `{"signatures":{"s":{"a":"`+Seal("K", whole)+`"}},`, 1), api.ErrSignature)
}

func TestP7EveryKeyInUseMustHaveSigned(t *testing.T) {
	members, keys := manyKeys(4, "k", "")
	text := changed(t, `"a":{"key":"K"}`, members)
	all := signedBy(t, text, "s", keys...)
	if _, e := Read(all); e != api.OK {
		t.Fatalf("Read(%q): %d", all, e)
	}
	for i := range 4 {
		others := append(append([]string{}, keys[:2*i]...), keys[2*i+2:]...)
		wantNoDocument(t, signedBy(t, text, "s", others...), api.ErrSignature)
		wantNoDocument(t, signedBy(t, text, "s", keys[2*i:2*i+2]...), api.ErrSignature)
		wrong, _ := Signed(all, "s", keys[2*i], "00000000")
		wantNoDocument(t, wrong, api.ErrSignature)
		next := (i + 1) % 4
		message, _ := Message(text)
		other, _ := Signed(all, "s", keys[2*i], Seal(keys[2*next+1], message))
		wantNoDocument(t, other, api.ErrSignature)
	}
}

func TestP7WhichErrorComesFirst(t *testing.T) {
	for _, text := range wrongTexts() {
		wantNoDocument(t, text, api.ErrJSON)
	}
	for _, text := range otherValues() {
		wantNoDocument(t, text, api.ErrObject)
	}
	wantNoDocument(t, "{}", api.ErrDocument)
	good := signedBy(t, plainDocument, "s", "a", "K")
	fill := func(text string, size int) string { return text + strings.Repeat(" ", size-len(text)) }
	if _, e := Read(fill(good, 600)); e != api.OK {
		t.Errorf("Read of 600 bytes: %d", e)
	}
	for _, text := range []string{good, plainDocument, "{}", "[]", "[", exampleDocument} {
		wantNoDocument(t, fill(text, 601), api.ErrLong)
	}
	for _, text := range []string{good[:len(good)-1], good + "}", strings.Replace(good, ":5", ":05", 1), strings.Replace(good, ":5", ":5.0", 1), strings.Replace(good, ":5", ":9007199254740992", 1), strings.Replace(good, "{", `{"server_name":"s",`, 1), strings.Replace(good, `"key":"K"`, `"key":"K","key":"K"`, 1), strings.Replace(good, ":3", ":-0", 1), strings.Replace(good, `"K"`, "\"\xff\"", 1), "{\"\xff\":1}"} {
		wantNoDocument(t, text, api.ErrJSON)
	}
	wantNoDocument(t, "["+good+"]", api.ErrObject)
	// No document and without a signature: what is wrong with the document comes first, wherever it stands.
	for _, c := range []struct{ old, now string }{{`"s"`, `""`}, {":5", ":-5"}, {`{"a":{"key":"K"}}`, "{}"}, {`"b":`, `"a":`}, {":3", `:"3"`}, {`"b":`, `"":`}} {
		wantNoDocument(t, changed(t, c.old, c.now), api.ErrDocument)
		wantNoDocument(t, signedBy(t, changed(t, c.old, c.now), "s", "a", "wrong"), api.ErrDocument)
	}
}

func TestP2KeysAreTheCallers(t *testing.T) {
	want, _ := Read(exampleDocument)
	first, _ := Read(exampleDocument)
	second, _ := Read(exampleDocument)
	for i := range first.Keys {
		first.Keys[i] = api.Key{ID: "mine"}
	}
	_ = append(first.Keys[:0], api.Key{ID: "mine", Key: "mine"})
	if !reflect.DeepEqual(second, want) {
		t.Errorf("%+v", second)
	}
	wantDocument(t, exampleDocument, want)
	var all sync.WaitGroup
	for range 8 {
		all.Go(func() {
			for range 100 {
				wantDocument(t, exampleDocument, want)
				wantNoDocument(t, plainDocument, api.ErrSignature)
			}
		})
	}
	all.Wait()
}
