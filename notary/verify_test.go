package notary

import (
	"math"
	"strconv"
	"strings"
	"testing"

	"notary/api"
)

func watchWith(t *testing.T, sources ...string) watched {
	return watched{New("me", "mine", "secret", sources), t}
}

func (w watched) verifies(event string, now int64, replies []api.Reply, code api.Errno, server string, asked int) {
	w.t.Helper()
	want := api.Outcome{Code: code, Server: server}
	if got, times := w.Verify(event, now, replies); got != want || times != asked {
		w.t.Errorf("Verify(%q, %d, %#v) = %+v, %d, want %+v, %d", event, now, replies, got, times, want, asked)
	}
}

func tells(source, server, text string) api.Reply {
	return api.Reply{Source: source, Server: server, Text: text}
}

func fails(source, server, text string) api.Reply {
	return api.Reply{Source: source, Server: server, Text: text, Fails: true}
}

// eventOf is an event of the server s, signed by s with a key under a name.
func eventOf(t *testing.T, ts int64, id, key string) string {
	t.Helper()
	return signedBy(t, `{"origin":"s","ts":`+strconv.FormatInt(ts, 10)+`}`, "s", id, key)
}

// bySAndT is a notary that knows the key K under a, till 100, of s and of t, and an old one, J under o, till 10.
func bySAndT(t *testing.T) watched {
	t.Helper()
	w := watch(t)
	for _, server := range []string{"s", "t"} {
		w.learns(signedBy(t, `{"server_name":"`+server+`","valid_until_ts":100,"verify_keys":{"a":{"key":"K"}},"old_verify_keys":{"o":{"key":"J","expired_ts":10}}}`, server, "a", "K"), 0, api.OK)
	}
	return w
}

func TestP12TheExample(t *testing.T) {
	w := watch(t)
	w.learns(exampleDocument, 0, api.OK)
	w.verifies(`{"origin":"s","signatures":{"s":{"k0":"78763df6"}},"ts":90}`, 0, nil, api.OK, "", 0)
	w.verifies(`{"origin":"s","signatures":{"s":{"k0":"78763df6"}},"ts":89}`, 0, nil, api.ErrSignature, "s", 0)
	w.verifies(eventOf(t, 91, "k0", "J"), 0, nil, api.ErrUnknown, "s", 1)
}

func TestP12TheErrorsOfMessageComeFirst(t *testing.T) {
	good := eventOf(t, 50, "a", "K")
	event := func(w watched, text string, want api.Errno) {
		t.Helper()
		w.verifies(text, 0, []api.Reply{tells("s", "s", inUse(t, "s", "a", "K", 100))}, want, "", 0)
	}
	for _, w := range []watched{watch(t), bySAndT(t), watchWith(t, "s", "t")} {
		for _, text := range []string{good + strings.Repeat(" ", 601-len(good)), strings.Repeat("[", 601), strings.Repeat("x", 601), "{}" + strings.Repeat(" ", 599), strings.Repeat(good, 300)} {
			event(w, text, api.ErrLong)
		}
		for _, text := range append(wrongTexts(), good[1:], good[:len(good)-1], `{"origin":"s","ts":1.0}`, `{"origin":"s","ts":-0}`, `{"origin":"s","origin":"s","ts":5}`, `{"ts":9007199254740992}`) {
			event(w, text, api.ErrJSON)
		}
		for _, text := range append(otherValues(), "["+good+"]") {
			event(w, text, api.ErrObject)
		}
		event(w, "{}", api.ErrEvent)
	}
	w := bySAndT(t)
	w.verifies(good+strings.Repeat(" ", 600-len(good)), 0, nil, api.OK, "", 0)
}

// noEvents are objects that lack one thing to be an event.
func noEvents() []string {
	with := func(origin, sender, ts string) string {
		return `{` + origin + sender + ts + `"more":1}`
	}
	const origin, sender, ts = `"origin":"s",`, `"sender":"t",`, `"ts":5,`
	texts := []string{"{}", with("", sender, ts), with("", "", ts), with(origin, sender, ""), with(origin, "", ""), with("", "", "")}
	for _, v := range append(valuesBut("string"), `""`, `"twenty-one bytes long"`, `"`+strings.Repeat("é", 10)+`x"`, `"`+strings.Repeat("n", 500)+`"`) {
		texts = append(texts, with(`"origin":`+v+`,`, sender, ts), with(`"origin":`+v+`,`, "", ts), with(origin, `"sender":`+v+`,`, ts))
	}
	for _, v := range append(valuesBut("number"), "-1", "-9007199254740991") {
		texts = append(texts, with(origin, sender, `"ts":`+v+`,`), with(origin, "", `"ts":`+v+`,`))
	}
	return texts
}

func TestP12WhatIsNoEvent(t *testing.T) {
	replies := []api.Reply{tells("s", "s", inUse(t, "s", "a", "K", 100)), tells("t", "t", inUse(t, "t", "a", "K", 100))}
	for _, text := range noEvents() {
		signed := text
		if len(text) < 400 {
			signed = signedBy(t, signedBy(t, text, "s", "a", "K"), "t", "a", "K")
		}
		for _, one := range []string{text, signed} {
			bySAndT(t).verifies(one, 0, replies, api.ErrEvent, "", 0)
			w := watchWith(t, "x", "y")
			w.verifies(one, 0, replies, api.ErrEvent, "", 0)
			// Nobody was asked, in vain or not.
			w.lacks("s", "a", 0)
			w.verifies(eventOf(t, 5, "a", "K"), 0, nil, api.ErrUnknown, "s", 3)
		}
	}
}

func TestP12TheEdgesOfAnEvent(t *testing.T) {
	for _, name := range []string{"n", "twenty bytes of name", strings.Repeat("é", 10), "\n\"\\", " ", "signatures", "unsigned", "me"} {
		text, e := Canon(`{"sender":` + strconv.Quote(name) + `,"ts":0,"origin":` + strconv.Quote(name) + `}`)
		if e != api.OK {
			t.Fatalf("%q: %d", name, e)
		}
		w := watch(t)
		w.verifies(text, 0, nil, api.ErrSignature, name, 0)
		w.verifies(signedBy(t, text, name, "a", "K"), 0, nil, api.ErrUnknown, name, 1)
	}
	w := watch(t)
	w.learns(withOld(t, "s", "a", "K", api.MaxNumber), 0, api.OK)
	for _, ts := range []int64{0, 1, api.MaxNumber - 1, api.MaxNumber} {
		w.verifies(eventOf(t, ts, "a", "K"), 0, nil, api.OK, "", 0)
	}
	w.verifies(signedBy(t, ` { "more" : { "sender" : 7 , "origin" : null } , "t\u0073" : 3 , "o\u0072igin" : "\u0073" } `, "s", "a", "K"), 0, nil, api.OK, "", 0)
}

func TestP12WhoMustHaveSigned(t *testing.T) {
	const alone, both, same = `{"origin":"s","ts":50}`, `{"origin":"s","sender":"t","ts":50}`, `{"origin":"s","sender":"s","ts":50}`
	for _, c := range []struct {
		text   string
		code   api.Errno
		server string
	}{
		{signedBy(t, alone, "s", "a", "K"), api.OK, ""},
		{signedBy(t, alone, "t", "a", "K"), api.ErrSignature, "s"},
		{signedBy(t, same, "s", "a", "K"), api.OK, ""},
		{signedBy(t, same, "t", "a", "K"), api.ErrSignature, "s"},
		{signedBy(t, both, "s", "a", "K"), api.ErrSignature, "t"},
		{signedBy(t, both, "t", "a", "K"), api.ErrSignature, "s"},
		{both, api.ErrSignature, "s"},
		{signedBy(t, signedBy(t, both, "s", "a", "K"), "t", "a", "K"), api.OK, ""},
		{signedBy(t, signedBy(t, both, "s", "a", "K"), "t", "a", "J"), api.ErrSignature, "t"},
		{signedBy(t, signedBy(t, both, "s", "a", "J"), "t", "a", "K"), api.ErrSignature, "s"},
		{signedBy(t, signedBy(t, both, "s", "a", "J"), "t", "a", "J"), api.ErrSignature, "s"},
		// What others have signed is nothing to it, right or wrong.
		{signedBy(t, signedBy(t, alone, "s", "a", "K"), "t", "a", "J"), api.OK, ""},
		{signedBy(t, signedBy(t, alone, "s", "a", "K"), "u", "a", "J"), api.OK, ""},
	} {
		bySAndT(t).verifies(c.text, 0, nil, c.code, c.server, 0)
	}
	for _, other := range []string{`1`, `""`, `null`, `"twenty-one bytes long"`} {
		bySAndT(t).verifies(signedBy(t, strings.Replace(both, `"t"`, other, 1), "s", "a", "K"), 0, nil, api.ErrEvent, "", 0)
	}
}

// parts are the ways in which a server's part of an event may stand, each with what comes of it.
var parts = []struct {
	id, key string
	code    api.Errno
	asked   int
}{{"a", "K", api.OK, 0}, {"a", "J", api.ErrSignature, 0}, {"", "", api.ErrSignature, 0}, {"x", "K", api.ErrUnknown, 3}, {"new", "N", api.OK, 2}, {"new", "J", api.ErrSignature, 2}}

func TestP12TheFirstFaultIsTold(t *testing.T) {
	for _, origin := range parts {
		for _, sender := range parts {
			text := `{"origin":"s","sender":"t","ts":50}`
			if origin.key != "" {
				text = signedBy(t, text, "s", origin.id, origin.key)
			}
			if sender.key != "" {
				text = signedBy(t, text, "t", sender.id, sender.key)
			}
			w := bySAndT(t)
			w.Notary.sources = []string{"one", "two"}
			replies := []api.Reply{tells("one", "s", inUse(t, "s", "new", "N", 60)), tells("one", "t", inUse(t, "t", "new", "N", 60))}
			switch {
			case origin.code != api.OK:
				w.verifies(text, 0, replies, origin.code, "s", origin.asked)
				// The sender was not asked for: neither with success nor in vain.
				w.lacks("t", "new", 0)
				w.verifies(signedBy(t, `{"origin":"t","ts":50}`, "t", "x", "K"), 0, nil, api.ErrUnknown, "t", 3)
			case sender.code != api.OK:
				w.verifies(text, 0, replies, sender.code, "t", origin.asked+sender.asked)
			default:
				w.verifies(text, 0, replies, api.OK, "", origin.asked+sender.asked)
			}
		}
	}
}

func TestP13WhereNoStringStands(t *testing.T) {
	replies := []api.Reply{tells("s", "s", inUse(t, "s", "new", "N", 60))}
	with := func(signatures string) string { return `{"origin":"s","signatures":` + signatures + `,"ts":50}` }
	texts := []string{`{"origin":"s","ts":50}`, with("{}"), with(`{"s":{}}`), with(`{"t":{"a":"x"}}`), with(`{"S":{"a":"x"}}`), with(`{"":{"a":"x"}}`), with(`{"a":"x"}`), with(`{"a":{"s":"x"}}`), with(`{"s":{"s":{"a":"x"}}}`), with(`["s",{"a":"x"}]`)}
	for _, v := range valuesBut("object") {
		texts = append(texts, with(v), with(`{"s":`+v+`}`), with(`{"s":`+v+`,"t":{"a":"x"}}`))
	}
	for _, v := range valuesBut("string") {
		texts = append(texts, with(`{"s":{"a":`+v+`}}`), with(`{"s":{"new":`+v+`}}`), with(`{"s":{"":`+v+`,"a":`+v+`,"x":`+v+`}}`))
	}
	for _, text := range texts {
		for _, w := range []watched{watch(t), bySAndT(t)} {
			w.verifies(text, 0, replies, api.ErrSignature, "s", 0)
			w.lacks("s", "new", 0)
		}
	}
}

func TestP13StringsBesideOtherValues(t *testing.T) {
	right := Seal("K", `{"origin":"s","ts":50}`)
	for _, v := range valuesBut("string") {
		for _, c := range []struct {
			signatures string
			code       api.Errno
			asked      int
		}{
			{`{"s":{"0":` + v + `,"a":"` + right + `","z":` + v + `}}`, api.OK, 0},
			{`{"s":{"0":` + v + `,"a":"wrong","z":` + v + `}}`, api.ErrSignature, 0},
			{`{"s":{"0":` + v + `,"a":"","z":` + v + `}}`, api.ErrSignature, 0},
			// A known name counts only with a string of its own.
			{`{"s":{"a":` + v + `,"x":"` + right + `"}}`, api.ErrUnknown, 1},
			{`{"s":{"x":"` + right + `"},"t":` + v + `}`, api.ErrUnknown, 1},
			{`{"s":{"a":` + v + `,"x":""}}`, api.ErrUnknown, 1},
		} {
			text := `{"origin":"s","signatures":` + c.signatures + `,"ts":50,"unsigned":` + v + `}`
			server := "s"
			if c.code == api.OK {
				server = ""
			}
			bySAndT(t).verifies(text, 0, nil, c.code, server, c.asked)
		}
	}
}

func TestP13NamesOfAnyLength(t *testing.T) {
	for _, id := range []string{"", "twenty-one bytes long", strings.Repeat("n", 300), "é\n\"", " a", "a "} {
		for _, key := range []string{"", "K", "X"} {
			w := bySAndT(t)
			w.Notary.sources = []string{"one"}
			w.verifies(eventOf(t, 50, id, key), 0, nil, api.ErrUnknown, "s", 2)
			w.verifies(signedBy(t, eventOf(t, 50, "a", "K"), "s", id, key), 0, nil, api.OK, "", 0)
			w.verifies(signedBy(t, eventOf(t, 50, "a", "X"), "s", id, key), 0, nil, api.ErrSignature, "s", 0)
		}
	}
}

func TestP13OnlyTheRightStringIsRight(t *testing.T) {
	const body = `{"origin":"s","ts":50}`
	right := Seal("K", body)
	with := func(text string) string {
		return `{"origin":"s","signatures":{"s":{"a":"` + text + `"}},"ts":50}`
	}
	w := bySAndT(t)
	w.verifies(with(right), 0, nil, api.OK, "", 0)
	w.verifies(with(`\u00`+strconv.FormatInt(int64(right[0]), 16)+right[1:]), 0, nil, api.OK, "", 0)
	for _, text := range []string{"", " ", right + " ", " " + right, right[:7], right[1:], right + right, strings.ToUpper(right) + "0", "00000000", "K", Seal("k", body), Seal("", body), Seal("J", body), Seal("K", ""), Seal("K", body+"\\n"), Seal("K", `{"origin":"s","ts":51}`), Seal(right, body)} {
		w.verifies(with(text), 0, nil, api.ErrSignature, "s", 0)
	}
	// What was signed may not be changed, but for what is not signed.
	signed := eventOf(t, 50, "a", "K")
	w.verifies(strings.Replace(signed, "{", ` { "unsigned" : {"age":1} , `, 1), 0, nil, api.OK, "", 0)
	w.verifies(strings.Replace(signed, "{", `{"more":1,`, 1), 0, nil, api.ErrSignature, "s", 0)
	w.verifies(strings.Replace(signed, ":50", ":49", 1), 0, nil, api.ErrSignature, "s", 0)
	w.verifies(strings.Replace(signed, "{", `{"sender":"s",`, 1), 0, nil, api.ErrSignature, "s", 0)
	w.verifies(strings.ReplaceAll(signed, `"s"`, `"t"`), 0, nil, api.ErrSignature, "t", 0)
	// Signed as it came, with blanks and in another order, it is not right: Message is what is signed.
	w.verifies(`{ "ts":50, "origin":"s", "signatures":{"s":{"a":"`+Seal("K", `{ "ts":50, "origin":"s"}`)+`"}}}`, 0, nil, api.ErrSignature, "s", 0)
	w.verifies(`{ "ts":50, "origin":"s", "signatures":{"s":{"a":"`+right+`"}}}`, 0, nil, api.OK, "", 0)
}

func TestP13AnEmptyKeyIsAKey(t *testing.T) {
	w := watch(t)
	w.learns(inUse(t, "s", "a", "", 100), 0, api.OK)
	w.verifies(eventOf(t, 50, "a", ""), 0, nil, api.OK, "", 0)
	w.verifies(eventOf(t, 50, "a", "K"), 0, nil, api.ErrSignature, "s", 0)
	w.verifies(eventOf(t, 50, "b", ""), 0, nil, api.ErrUnknown, "s", 1)
}

func TestP13SeveralNames(t *testing.T) {
	// Every name may lack, bear no string, a wrong one or the right one.
	names := []struct {
		id, key string
		till    int64
	}{{"a", "K", 100}, {"b", "L", 50}, {"o", "J", 10}, {"x", "X", -1}}
	document := signedBy(t, `{"server_name":"s","valid_until_ts":100,"verify_keys":{"a":{"key":"K"}},"old_verify_keys":{"b":{"key":"L","expired_ts":50},"o":{"key":"J","expired_ts":10}}}`, "s", "a", "K")
	for _, ts := range []int64{0, 9, 10, 11, 49, 50, 51, 99, 100, 101} {
		body := `{"origin":"s","ts":` + strconv.FormatInt(ts, 10) + `}`
		for choice := range 256 {
			var members []string
			anyString, anyKey, anyRight := false, false, false
			for i, name := range names {
				how := choice >> (2 * i) & 3
				value := []string{"", "7", `"` + Seal("wrong", body) + `"`, `"` + Seal(name.key, body) + `"`}[how]
				if how > 0 {
					members = append(members, `"`+name.id+`":`+value)
				}
				anyString = anyString || how > 1
				anyKey = anyKey || how > 1 && ts <= name.till
				anyRight = anyRight || how == 3 && ts <= name.till
			}
			w := watch(t)
			w.learns(document, 0, api.OK)
			text := `{"signatures":{"s":{` + strings.Join(members, ",") + `}},` + body[1:]
			switch {
			case anyRight:
				w.verifies(text, 0, nil, api.OK, "", 0)
			case !anyString || anyKey:
				w.verifies(text, 0, nil, api.ErrSignature, "s", 0)
			default:
				w.verifies(text, 0, nil, api.ErrUnknown, "s", 1)
			}
		}
	}
}

func TestP13TheMomentTillWhichAKeyMayHaveSigned(t *testing.T) {
	for _, c := range []struct {
		document  string
		now, till int64
	}{
		{inUse(t, "s", "a", "K", 100), 0, 100}, {inUse(t, "s", "a", "K", 0), 0, 0}, {inUse(t, "s", "a", "K", 1000), 0, 1000}, {inUse(t, "s", "a", "K", 5000), 0, 1000}, {inUse(t, "s", "a", "K", 5000), -1000, 0},
		{inUse(t, "s", "a", "K", 5000), -1001, -1}, {inUse(t, "s", "a", "K", 5000), math.MinInt64, -1}, {inUse(t, "s", "a", "K", api.MaxNumber), math.MaxInt64, api.MaxNumber}, {withOld(t, "s", "a", "K", 3), 0, 3}, {withOld(t, "s", "a", "K", 5000), 0, 5000},
	} {
		for _, ts := range []int64{c.till - 1, c.till, c.till + 1, c.till + 2} {
			if ts < 0 || ts > api.MaxNumber {
				continue
			}
			w := watch(t)
			w.learns(c.document, c.now, api.OK)
			// The moment of asking is nothing to the event's: ts alone is held against the key's.
			for _, now := range []int64{math.MinInt64, 0, 50, 100000, math.MaxInt64} {
				if ts <= c.till {
					w.verifies(eventOf(t, ts, "a", "K"), now, nil, api.OK, "", 0)
				} else {
					w.verifies(eventOf(t, ts, "a", "K"), now, nil, api.ErrUnknown, "s", 1)
				}
			}
		}
	}
}

func TestP14AKeyThatMayHaveSignedOnlyBefore(t *testing.T) {
	later := inUse(t, "s", "a", "K", 300)
	w := bySAndT(t)
	w.verifies(eventOf(t, 100, "a", "K"), 0, nil, api.OK, "", 0)
	w.verifies(eventOf(t, 101, "a", "K"), 0, []api.Reply{tells("s", "s", later)}, api.OK, "", 1)
	w.till("s", "a", "K", 300)
	w.answers("s", countersigned(t, later, "me", "mine", "secret"))
	w.verifies(eventOf(t, 300, "a", "K"), 0, nil, api.OK, "", 0)
	// A wrong string under such a key asks too; only then it is a wrong one.
	w.verifies(eventOf(t, 301, "a", "J"), 0, []api.Reply{tells("s", "s", inUse(t, "s", "a", "K", 301))}, api.ErrSignature, "s", 1)
	w.verifies(eventOf(t, 301, "a", "K"), 0, nil, api.OK, "", 0)
}
