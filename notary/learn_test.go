package notary

import (
	"math"
	"slices"
	"strconv"
	"strings"
	"testing"

	"notary/api"
)

// watched is a notary, with the test that holds it to its promises.
type watched struct {
	*Notary
	t *testing.T
}

func watch(t *testing.T) watched { return watched{New("me", "mine", "secret", nil), t} }

func (w watched) learns(text string, now int64, want api.Errno) {
	w.t.Helper()
	if e := w.Learn(text, now); e != want {
		w.t.Errorf("Learn(%q, %d) = %d, want %d", text, now, e, want)
	}
}

func (w watched) lacks(server, id string, at int64) {
	w.t.Helper()
	if key, ok := w.Key(server, id, at); key != "" || ok {
		w.t.Errorf("Key(%q, %q, %d) = %q, %v, want none", server, id, at, key, ok)
	}
}

func (w watched) has(server, id string, at int64, want string) {
	w.t.Helper()
	if key, ok := w.Key(server, id, at); key != want || !ok {
		w.t.Errorf("Key(%q, %q, %d) = %q, %v, want %q", server, id, at, key, ok, want)
	}
}

// till asks for the key at, before and behind its moment.
func (w watched) till(server, id, key string, moment int64) {
	w.t.Helper()
	w.has(server, id, moment, key)
	w.has(server, id, math.MinInt64, key)
	if moment > math.MinInt64 {
		w.has(server, id, moment-1, key)
	}
	if moment < math.MaxInt64 {
		w.lacks(server, id, moment+1)
		w.lacks(server, id, math.MaxInt64)
	}
}

func (w watched) answers(server, want string) {
	w.t.Helper()
	if got, e := w.Answer(server); got != want || e != api.OK {
		w.t.Errorf("Answer(%q) = %q, %d, want %q", server, got, e, want)
	}
}

func (w watched) answersNot(server string, want api.Errno) {
	w.t.Helper()
	if got, e := w.Answer(server); got != "" || e != want {
		w.t.Errorf("Answer(%q) = %q, %d, want error %d", server, got, e, want)
	}
}

// countersigned is what Answer must tell of a document, by the words of P11.
func countersigned(t *testing.T, text, name, id, key string) string {
	t.Helper()
	message, e := Message(text)
	if e != api.OK {
		t.Fatalf("Message(%q): %d", text, e)
	}
	signed, e := Signed(text, name, id, Seal(key, message))
	if e != api.OK {
		t.Fatalf("Signed(%q): %d", text, e)
	}
	return signed
}

// inUse is a document of one key in use.
func inUse(t *testing.T, server, id, key string, until int64) string {
	t.Helper()
	return signedBy(t, `{"server_name":"`+server+`","valid_until_ts":`+strconv.FormatInt(until, 10)+`,"verify_keys":{"`+id+`":{"key":"`+key+`"}}}`, server, id, key)
}

// withOld is a document of a key "use" and of one old key.
func withOld(t *testing.T, server, id, key string, expired int64) string {
	t.Helper()
	return signedBy(t, `{"server_name":"`+server+`","valid_until_ts":1,"verify_keys":{"use":{"key":"U"}},"old_verify_keys":{"`+id+`":{"key":"`+key+`","expired_ts":`+strconv.FormatInt(expired, 10)+`}}}`, server, "use", "U")
}

func TestP8ANewNotaryKnowsNothing(t *testing.T) {
	for _, sources := range [][]string{nil, {}, {"s", "a", "", "\xff"}} {
		for _, name := range []string{"", "me", "s", "\xff", strings.Repeat("n", 5000)} {
			w := watched{New(name, name, name, sources), t}
			for _, server := range []string{"", "s", "a", "me", "\xff", name} {
				w.answersNot(server, api.ErrUnknown)
				for _, at := range []int64{math.MinInt64, -1, 0, 1, math.MaxInt64} {
					w.lacks(server, "", at)
					w.lacks(server, name, at)
					w.lacks(server, "a", at)
				}
			}
		}
	}
}

func TestP8SourcesAreNotKept(t *testing.T) {
	sources := []string{"x", "y", "z"}
	n := New("me", "mine", "secret", sources[:2])
	sources[0] = "written"
	_ = append(sources[:1], "written")
	if !slices.Equal(n.sources, []string{"x", "y"}) {
		t.Errorf("the sources are %q", n.sources)
	}
	n.sources = append(n.sources, "mine")
	if !slices.Equal(sources, []string{"written", "written", "z"}) {
		t.Errorf("the caller's list is %q", sources)
	}
}

func TestP9TheExample(t *testing.T) {
	w := watch(t)
	w.learns(exampleDocument, 0, api.OK)
	w.till("s", "k1", "K", 500)
	w.till("s", "k0", "J", 90)
}

func TestP9TheErrorsOfRead(t *testing.T) {
	good := signedBy(t, plainDocument, "s", "a", "K")
	wrong := map[api.Errno][]string{
		api.ErrLong:      {good + strings.Repeat(" ", 601-len(good)), strings.Repeat("[", 601)},
		api.ErrJSON:      append(wrongTexts(), good[1:], good[:len(good)-1]),
		api.ErrObject:    append(otherValues(), "["+good+"]"),
		api.ErrDocument:  {"{}", changed(t, ":5", ":-5"), signedBy(t, changed(t, `"b"`, `"a"`), "s", "a", "K")},
		api.ErrSignature: {plainDocument, signedBy(t, plainDocument, "s", "a", "J"), signedBy(t, plainDocument, "t", "a", "K"), strings.Replace(good, ":5", ":500", 1)},
	}
	for _, before := range []string{"", inUse(t, "s", "a", "K", 2), inUse(t, "s", "a", "X", 2)} {
		for want, texts := range wrong {
			for _, text := range texts {
				w := watch(t)
				if before != "" {
					w.learns(before, 0, api.OK)
				}
				// With a key that is known otherwise too: what is wrong with the text comes first.
				w.learns(text, 0, want)
				w.lacks("s", "a", 3)
				w.lacks("s", "b", 0)
				w.lacks("t", "a", 0)
				if before == "" {
					w.lacks("s", "a", 0)
					w.answersNot("s", api.ErrUnknown)
				} else {
					w.answers("s", countersigned(t, before, "me", "mine", "secret"))
				}
			}
		}
	}
}

// fourAndTwo is a document of four keys in use and two old ones, of which the key under other is X.
func fourAndTwo(t *testing.T, other string) string {
	t.Helper()
	var members [6]string
	var keys []string
	for i := range members {
		id, key := "k"+strconv.Itoa(i), "K"+strconv.Itoa(i)
		if id == other {
			key = "X"
		}
		members[i] = `"` + id + `":{"expired_ts":50,"key":"` + key + `"}`
		if i < 4 {
			keys = append(keys, id, key)
		}
	}
	return signedBy(t, `{"server_name":"s","valid_until_ts":60,"verify_keys":{`+strings.Join(members[:4], ",")+`},"old_verify_keys":{`+strings.Join(members[4:], ",")+`}}`, "s", keys...)
}

func TestP9AConflictTakesNothingIn(t *testing.T) {
	for i := range 6 {
		id, key := "k"+strconv.Itoa(i), "K"+strconv.Itoa(i)
		for _, before := range []string{inUse(t, "s", id, key, 7), withOld(t, "s", id, key, 7)} {
			w := watch(t)
			w.learns(before, 0, api.OK)
			w.learns(fourAndTwo(t, id), 0, api.ErrConflict)
			w.till("s", id, key, 7)
			for other := range 6 {
				if other != i {
					w.lacks("s", "k"+strconv.Itoa(other), math.MinInt64)
				}
			}
			w.answers("s", countersigned(t, before, "me", "mine", "secret"))
			// What was not taken in does not stand in the way of what comes next.
			w.learns(fourAndTwo(t, "k"+strconv.Itoa((i+1)%6)), 0, api.OK)
			w.has("s", "k"+strconv.Itoa((i+1)%6), 50, "X")
		}
	}
}

func TestP9WhatIsAConflict(t *testing.T) {
	for _, c := range []struct {
		key, other string
		want       api.Errno
	}{{"K", "K", api.OK}, {"K", `\u004b`, api.OK}, {"", "", api.OK}, {"K", "k", api.ErrConflict}, {"K", "", api.ErrConflict}, {"", "K", api.ErrConflict}, {"K", "K ", api.ErrConflict}, {"K", "KK", api.ErrConflict}, {"é", "e\u0301", api.ErrConflict}} {
		raw := strings.ReplaceAll(c.other, `\u004b`, "K")
		first := []string{inUse(t, "s", "a", c.key, 9), withOld(t, "s", "a", c.key, 9)}
		then := []string{
			signedBy(t, `{"server_name":"s","valid_until_ts":20,"verify_keys":{"a":{"key":"`+c.other+`"}}}`, "s", "a", raw),
			withOld(t, "s", "a", c.other, 20),
		}
		for _, one := range first {
			for _, two := range then {
				for _, now := range []int64{0, 5000, math.MaxInt64, math.MinInt64} {
					w := watch(t)
					w.learns(one, 0, api.OK)
					w.learns(two, now, c.want)
				}
			}
		}
	}
	// Another server, or another name, is no conflict, and one key may stand under two names.
	w := watch(t)
	w.learns(inUse(t, "s", "a", "K", 9), 0, api.OK)
	w.learns(inUse(t, "t", "a", "L", 9), 0, api.OK)
	w.learns(inUse(t, "s", "b", "L", 9), 0, api.OK)
	w.learns(inUse(t, "s", "c", "K", 9), 0, api.OK)
	w.learns(inUse(t, "S", "A", "M", 9), 0, api.OK)
	w.learns(inUse(t, "s", "a", "L", 9), 0, api.ErrConflict)
	w.learns(inUse(t, "t", "a", "K", 9), 0, api.ErrConflict)
	w.till("s", "a", "K", 9)
	w.till("t", "a", "L", 9)
	w.till("s", "b", "L", 9)
	w.till("s", "c", "K", 9)
	w.till("S", "A", "M", 9)
}

func TestP9TheBoundOfTrust(t *testing.T) {
	const most = int64(api.MaxNumber)
	for _, c := range []struct{ now, until, want int64 }{
		{0, 0, 0}, {0, 999, 999}, {0, 1000, 1000}, {0, 1001, 1000}, {0, most, 1000},
		{1, 1001, 1001}, {1, 1002, 1001}, {-1, 999, 999}, {-1, 1000, 999}, {-1000, 0, 0}, {-1000, 5, 0}, {-1001, 0, -1}, {-1001, 5, -1}, {-5000, most, -4000},
		{500, 0, 0}, {500, 500, 500}, {5000, 4999, 4999},
		{most - 1000, most, most}, {most - 1001, most, most - 1}, {most, most, most},
		{math.MaxInt64, most, most}, {math.MaxInt64, 0, 0}, {math.MaxInt64 - 999, 9, 9}, {math.MaxInt64 - 1000, 9, 9}, {math.MaxInt64 - 1001, 9, 9}, {math.MaxInt64 - 1, most, most},
		{math.MinInt64, 0, math.MinInt64 + 1000}, {math.MinInt64, most, math.MinInt64 + 1000}, {math.MinInt64 + 1, 7, math.MinInt64 + 1001},
	} {
		w := watch(t)
		w.learns(inUse(t, "s", "a", "K", c.until), c.now, api.OK)
		w.till("s", "a", "K", c.want)
		// What is learned once more, later on, is trusted from then on, and never less.
		w.learns(inUse(t, "s", "a", "K", c.until), c.now, api.OK)
		w.till("s", "a", "K", c.want)
	}
	w := watch(t)
	for _, now := range []int64{math.MinInt64, -2000, 0, 300, 7000} {
		w.learns(inUse(t, "s", "a", "K", 1200), now, api.OK)
		w.till("s", "a", "K", min(now+1000, 1200))
	}
	w.learns(inUse(t, "s", "a", "K", 1200), math.MinInt64, api.OK)
	w.till("s", "a", "K", 1200)
}

func TestP9OldKeysAreNotBound(t *testing.T) {
	for _, c := range []struct{ now, use int64 }{{math.MinInt64, math.MinInt64 + 1000}, {-5000, -4000}, {0, 1}, {5000, 1}, {math.MaxInt64, 1}} {
		for _, expired := range []int64{0, 1, 1001, 5001, api.MaxNumber} {
			w := watch(t)
			w.learns(withOld(t, "s", "a", "K", expired), c.now, api.OK)
			w.till("s", "a", "K", expired)
			w.till("s", "use", "U", c.use)
		}
	}
}

func TestP9TheLaterMomentStands(t *testing.T) {
	kinds := []func(moment int64) string{
		func(moment int64) string { return inUse(t, "s", "a", "K", moment) },
		func(moment int64) string { return withOld(t, "s", "a", "K", moment) },
	}
	for _, one := range kinds {
		for _, two := range kinds {
			for _, moments := range [][2]int64{{3, 8}, {8, 3}, {5, 5}, {0, 1}, {1, 0}, {0, 0}} {
				w := watch(t)
				w.learns(one(moments[0]), 0, api.OK)
				w.till("s", "a", "K", moments[0])
				w.learns(two(moments[1]), 0, api.OK)
				w.till("s", "a", "K", max(moments[0], moments[1]))
			}
		}
	}
	// The bound is each document's own: what the one may not say, the other may.
	for _, order := range [][2]int{{0, 1}, {1, 0}} {
		w := watch(t)
		for _, i := range order {
			w.learns(kinds[i](3000), 0, api.OK)
		}
		w.till("s", "a", "K", 3000)
	}
}

func TestP10UnknownServersAndNames(t *testing.T) {
	w := watch(t)
	w.learns(fourAndTwo(t, ""), 0, api.OK)
	w.learns(inUse(t, "t", "b", "", 10), 0, api.OK)
	// An empty key is a key.
	w.till("t", "b", "", 10)
	for i := range 4 {
		w.till("s", "k"+strconv.Itoa(i), "K"+strconv.Itoa(i), 60)
	}
	w.till("s", "k4", "K4", 50)
	w.till("s", "k5", "K5", 50)
	for _, c := range []struct{ server, id string }{{"s", "b"}, {"t", "k0"}, {"s", ""}, {"", "k0"}, {"S", "k0"}, {"s", "K0"}, {"k0", "s"}, {"s ", "k0"}, {"s", "k"}, {"s", "k00"}, {"sk", "0"}, {"\xff", "\xff"}, {"s", strings.Repeat("k", 5000)}, {"me", "mine"}} {
		for _, at := range []int64{math.MinInt64, 0, 10, math.MaxInt64} {
			w.lacks(c.server, c.id, at)
		}
	}
}

func TestP10NamesAreWhatTheyStandFor(t *testing.T) {
	w := watch(t)
	w.learns(signedBy(t, `{"server_name":"\u0073\n","valid_until_ts":5,"verify_keys":{"\u00e9\"":{"key":"\u004b\\"}}}`, "s\n", "é\"", `K\`), 0, api.OK)
	w.till("s\n", "é\"", `K\`, 5)
	w.lacks(`\u0073\n`, `\u00e9\"`, 5)
	if _, e := w.Answer("s\n"); e != api.OK {
		t.Errorf("Answer: %d", e)
	}
}

func TestP11TheLastOfSeveralDocuments(t *testing.T) {
	w := watch(t)
	texts := []string{
		inUse(t, "s", "a", "K", 5), inUse(t, "s", "a", "K", 500), inUse(t, "s", "a", "K", 5), withOld(t, "s", "a", "K", 1),
		" " + strings.ReplaceAll(inUse(t, "s", "b", "L", 5), ",", " ,\n"),
		signedBy(t, `{"unsigned":{"z":1,"a":[2]},"more":"\u00e9\/","server_name":"s","valid_until_ts":0,"verify_keys":{"a":{"key":"K"}}}`, "s", "a", "K"),
	}
	for i, text := range texts {
		// An earlier moment of learning makes no document an earlier one.
		w.learns(text, int64(-i), api.OK)
		w.answers("s", countersigned(t, text, "me", "mine", "secret"))
		w.learns(inUse(t, "s", "a", "other", 7), 0, api.ErrConflict)
		w.learns(plainDocument, 0, api.ErrSignature)
		w.learns(inUse(t, "t", "a", "other", int64(i)), 0, api.OK)
		w.answers("s", countersigned(t, text, "me", "mine", "secret"))
		w.answers("t", countersigned(t, inUse(t, "t", "a", "other", int64(i)), "me", "mine", "secret"))
		w.answersNot("", api.ErrUnknown)
		w.answersNot("S", api.ErrUnknown)
		w.answersNot("me", api.ErrUnknown)
		w.answersNot("\xff", api.ErrUnknown)
	}
}

func TestP11TheExample(t *testing.T) {
	w := watch(t)
	w.learns(exampleDocument, 0, api.OK)
	message := `{"old_verify_keys":{"k0":{"expired_ts":90,"key":"J"}},"server_name":"s","valid_until_ts":500,"verify_keys":{"k1":{"key":"K"}}}`
	w.answers("s", `{"old_verify_keys":{"k0":{"expired_ts":90,"key":"J"}},"server_name":"s","signatures":{"me":{"mine":"`+Seal("secret", message)+`"},"s":{"k1":"d691c21c"}},"valid_until_ts":500,"verify_keys":{"k1":{"key":"K"}}}`)
}

func TestP11NamesIdsAndKeysOfTheNotary(t *testing.T) {
	document := signedBy(t, plainDocument, "s", "a", "K")
	long := strings.Repeat("long ", 300)
	for _, text := range []string{"", "a", "s", "é", "\n\"\\", "signatures", "twenty-one bytes long", long} {
		for _, set := range [][3]string{{text, "mine", "secret"}, {"me", text, "secret"}, {"me", "mine", text}, {text, text, text}} {
			w := watched{New(set[0], set[1], set[2], nil), t}
			w.learns(document, 0, api.OK)
			w.answers("s", countersigned(t, document, set[0], set[1], set[2]))
		}
	}
	for _, text := range []string{"\xff", "a\x80", "\xc0\xaf", "\xed\xa0\x80", "\xf4\x90\x80\x80", "\xe2\x82"} {
		for _, set := range [][3]string{{text, "mine", "secret"}, {"me", text, "secret"}, {text, text, text}} {
			w := watched{New(set[0], set[1], set[2], nil), t}
			w.answersNot("s", api.ErrUnknown)
			w.learns(document, 0, api.OK)
			w.answersNot("s", api.ErrJSON)
			w.answersNot("t", api.ErrUnknown)
			w.till("s", "a", "K", 5)
		}
		// A key is no string of a text: any bytes do.
		w := watched{New("me", "mine", text, nil), t}
		w.learns(document, 0, api.OK)
		w.answers("s", countersigned(t, document, "me", "mine", text))
	}
}

func TestP11SignaturesThatStandThereAlready(t *testing.T) {
	with := func(signatures string) string {
		return signedBy(t, changed(t, "{", `{"signatures":`+signatures+`,`), "s", "a", "K")
	}
	message, _ := Message(plainDocument)
	own, sig := Seal("K", message), Seal("secret", message)
	body := message[:strings.Index(message, `"valid_until_ts"`)]
	rest := message[len(body):]
	answer := func(signatures string) string { return body + `"signatures":` + signatures + "," + rest }
	for _, c := range []struct{ before, behind string }{
		{`{}`, `{"me":{"mine":"` + sig + `"},"s":{"a":"` + own + `"}}`},
		{`{"me":{"mine":"` + sig + `"}}`, `{"me":{"mine":"` + sig + `"},"s":{"a":"` + own + `"}}`},
		{`{"me":{"mine":"wrong","yours":"stays"}}`, `{"me":{"mine":"` + sig + `","yours":"stays"},"s":{"a":"` + own + `"}}`},
		{`{"me":{"mine":{"a":1}}}`, `{"me":{"mine":"` + sig + `"},"s":{"a":"` + own + `"}}`},
		{`{"me":"none","you":7}`, `{"me":{"mine":"` + sig + `"},"s":{"a":"` + own + `"},"you":7}`},
	} {
		w := watch(t)
		w.learns(with(c.before), 0, api.OK)
		w.answers("s", answer(c.behind))
	}
	// A notary of the server's own name lays its signature beside the server's, or, under the same id, in its place.
	beside := watched{New("s", "mine", "secret", nil), t}
	beside.learns(with("{}"), 0, api.OK)
	beside.answers("s", answer(`{"s":{"a":"`+own+`","mine":"`+sig+`"}}`))
	place := watched{New("s", "a", "secret", nil), t}
	place.learns(with("{}"), 0, api.OK)
	place.answers("s", answer(`{"s":{"a":"`+sig+`"}}`))
	place.till("s", "a", "K", 5)
}

func TestP11AnAnswerMayBeLong(t *testing.T) {
	short := inUse(t, "s", "a", "K", 5)
	text := strings.Replace(short, "{", `{"unsigned":"`+strings.Repeat("u", 600-len(short)-len(`"unsigned":"",`))+`",`, 1)
	if len(text) != 600 {
		t.Fatalf("the text has %d bytes", len(text))
	}
	w := watch(t)
	w.learns(text, 0, api.OK)
	want := countersigned(t, text, "me", "mine", "secret")
	w.answers("s", want)
	if len(want) <= 600 {
		t.Errorf("the answer has %d bytes", len(want))
	}
	// Such an answer is no text that could be learned again.
	w.learns(want, 0, api.ErrLong)
	w.answers("s", want)
	other := watched{New("you", "yours", "hidden", nil), t}
	other.learns(short, 0, api.OK)
	handed, _ := other.Answer("s")
	w.learns(handed, 0, api.OK)
	w.answers("s", countersigned(t, handed, "me", "mine", "secret"))
}

func TestP2NotariesBesideEachOther(t *testing.T) {
	one, two := watch(t), watch(t)
	one.learns(inUse(t, "s", "a", "K", 5), 0, api.OK)
	two.lacks("s", "a", 0)
	two.answersNot("s", api.ErrUnknown)
	two.learns(inUse(t, "s", "a", "L", 7), 0, api.OK)
	one.till("s", "a", "K", 5)
	two.till("s", "a", "L", 7)
	one.answers("s", countersigned(t, inUse(t, "s", "a", "K", 5), "me", "mine", "secret"))
	two.answers("s", countersigned(t, inUse(t, "s", "a", "L", 7), "me", "mine", "secret"))
	one.learns(inUse(t, "s", "a", "L", 7), 0, api.ErrConflict)
}

func TestP2AskingChangesNothing(t *testing.T) {
	w := watch(t)
	w.lacks("s", "k1", 0)
	w.answersNot("s", api.ErrUnknown)
	w.learns(exampleDocument, 0, api.OK)
	want := countersigned(t, exampleDocument, "me", "mine", "secret")
	for range 20 {
		w.till("s", "k1", "K", 500)
		w.lacks("s", "new", 0)
		w.lacks("new", "k1", 0)
		w.answers("s", want)
		w.answersNot("new", api.ErrUnknown)
	}
}
