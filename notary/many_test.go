package notary

import (
	"math"
	"slices"
	"strconv"
	"strings"
	"sync"
	"testing"
	"time"

	"notary/api"
)

func (w watched) judges(events []string, now int64, replies []api.Reply, asked int, want ...api.Outcome) {
	w.t.Helper()
	if got, times := w.Many(events, now, replies); !slices.Equal(got, want) || times != asked {
		w.t.Errorf("Many(%q, %d, %#v) = %+v, %d, want %+v, %d", events, now, replies, got, times, want, asked)
	}
}

var fine = api.Outcome{}

func unknown(server string) api.Outcome {
	return api.Outcome{Code: api.ErrUnknown, Server: server}
}

func unsigned(server string) api.Outcome {
	return api.Outcome{Code: api.ErrSignature, Server: server}
}

// eventBy is an event of a server, signed by it with keys (names and keys in turns).
func eventBy(t *testing.T, server string, ts int64, keys ...string) string {
	t.Helper()
	return signedBy(t, `{"origin":"`+server+`","ts":`+strconv.FormatInt(ts, 10)+`}`, server, keys...)
}

// eventByBoth is an event of s, sent by t, signed by each with a key under a name; without a name it is not signed.
func eventByBoth(t *testing.T, ts int64, idS, keyS, idT, keyT string) string {
	t.Helper()
	text := `{"origin":"s","sender":"t","ts":` + strconv.FormatInt(ts, 10) + `}`
	if idS != "" {
		text = signedBy(t, text, "s", idS, keyS)
	}
	if idT != "" {
		text = signedBy(t, text, "t", idT, keyT)
	}
	return text
}

func TestP15NoEvent(t *testing.T) {
	replies := []api.Reply{tells("s", "s", inUse(t, "s", "a", "K", 100))}
	for _, events := range [][]string{nil, {}} {
		w := watchWith(t, "one")
		w.judges(events, 0, replies, 0)
		w.lacks("s", "a", 0)
		w.judges([]string{eventOf(t, 5, "a", "K")}, 0, nil, 2, unknown("s"))
		w.judges(events, 0, replies, 0)
	}
}

func TestP15OneEvent(t *testing.T) {
	for _, part := range parts {
		text := `{"origin":"s","ts":50}`
		if part.key != "" {
			text = signedBy(t, text, "s", part.id, part.key)
		}
		for _, events := range [][]string{{text}, {text, text}, slices.Repeat([]string{text}, 20)} {
			w := bySAndT(t)
			w.Notary.sources = []string{"one", "two"}
			want := api.Outcome{Code: part.code, Server: "s"}
			if part.code == api.OK {
				want = fine
			}
			wants := slices.Repeat([]api.Outcome{want}, len(events))
			// The same event, however often it stands there, is asked for once.
			w.judges(events, 0, []api.Reply{tells("one", "s", inUse(t, "s", "new", "N", 60))}, part.asked, wants...)
			w.judges(events, 0, nil, 0, wants...)
		}
	}
}

// faulty are texts that are no events, by what is wrong with them; s and t have signed where that could be done.
func faulty(t *testing.T) map[api.Errno][]string {
	t.Helper()
	good := eventOf(t, 50, "a", "K")
	var none []string
	for _, text := range noEvents() {
		none = append(none, text)
		if len(text) < 400 {
			none = append(none, signedBy(t, signedBy(t, text, "s", "a", "K"), "t", "a", "K"))
		}
	}
	return map[api.Errno][]string{
		api.ErrLong:   {good + strings.Repeat(" ", 601-len(good)), strings.Repeat("[", 601), "{}" + strings.Repeat(" ", 599), strings.Repeat(good, 300)},
		api.ErrJSON:   append(wrongTexts(), good[1:], good[:len(good)-1], `{"origin":"s","origin":"s","ts":5}`),
		api.ErrObject: append(otherValues(), "["+good+"]"),
		api.ErrEvent:  none,
	}
}

func TestP15WhatIsNoEvent(t *testing.T) {
	replies := []api.Reply{tells("s", "s", inUse(t, "s", "a", "K", 100)), tells("t", "t", inUse(t, "t", "a", "K", 100))}
	for code, texts := range faulty(t) {
		for _, text := range texts {
			w := watchWith(t, "one")
			w.judges([]string{text}, 0, replies, 0, api.Outcome{Code: code})
			// It wants nothing: nobody was asked, in vain or not.
			w.lacks("s", "a", 0)
			w.lacks("t", "a", 0)
			// Beside events it is nothing to them, nor are they to it.
			w.judges([]string{text, eventOf(t, 5, "b", "L"), text, eventBy(t, "t", 5, "a", "K"), text}, 0, replies, 3,
				api.Outcome{Code: code}, unknown("s"), api.Outcome{Code: code}, fine, api.Outcome{Code: code})
		}
	}
}

func TestP15EveryKindAtItsPlace(t *testing.T) {
	var texts []string
	var want []api.Outcome
	wrong := faulty(t)
	for _, code := range []api.Errno{api.ErrEvent, api.ErrLong, api.ErrObject, api.ErrJSON} {
		texts, want = append(texts, wrong[code][0]), append(want, api.Outcome{Code: code})
	}
	texts = append(texts, eventOf(t, 50, "a", "K"), eventOf(t, 50, "a", "J"), `{"origin":"t","ts":0}`, eventBy(t, "u", 50, "a", "K"), eventByBoth(t, 7, "a", "K", "o", "J"))
	want = append(want, fine, unsigned("s"), unsigned("t"), unknown("u"), fine)
	for shift := range len(texts) {
		w := bySAndT(t)
		w.Notary.sources = []string{"one"}
		w.judges(append(slices.Clone(texts[shift:]), texts[:shift]...), 0, nil, 2, append(slices.Clone(want[shift:]), want[:shift]...)...)
	}
}

func TestP15WhoIsAsked(t *testing.T) {
	event, other := eventOf(t, 5, "a", "K"), eventBy(t, "t", 5, "a", "K")
	for _, c := range whoIsAsked {
		all := len(c.s) + len(c.t)
		watchWith(t, c.sources...).judges([]string{event, other}, 0, nil, all, unknown("s"), unknown("t"))
		for _, source := range c.s {
			w := watchWith(t, c.sources...)
			w.judges([]string{event, other}, 0, []api.Reply{tells(source, "s", inUse(t, "s", "a", "K", 5))}, 1+slices.Index(c.s, source)+len(c.t), fine, unknown("t"))
		}
		for _, source := range c.t {
			w := watchWith(t, c.sources...)
			w.judges([]string{event, other}, 0, []api.Reply{tells(source, "t", inUse(t, "t", "a", "K", 5))}, len(c.s)+1+slices.Index(c.t, source), unknown("s"), fine)
		}
	}
}

func TestP15WhatIsWanted(t *testing.T) {
	known, old, none := eventOf(t, 50, "a", "K"), eventOf(t, 10, "o", "J"), `{"origin":"s","ts":50}`
	late, strange := eventOf(t, 101, "a", "K"), eventOf(t, 50, "x", "K")
	for _, c := range []struct {
		events []string
		asked  int
		want   []api.Outcome
	}{
		{[]string{known}, 0, []api.Outcome{fine}},
		{[]string{known, old, none, eventOf(t, 50, "a", "J")}, 0, []api.Outcome{fine, fine, unsigned("s"), unsigned("s")}},
		{[]string{`{"origin":"s","signatures":{"s":{"x":1}},"ts":50}`, `{"origin":"s","signatures":7,"ts":50}`}, 0, []api.Outcome{unsigned("s"), unsigned("s")}},
		{[]string{late}, 3, []api.Outcome{unknown("s")}},
		{[]string{strange}, 3, []api.Outcome{unknown("s")}},
		{[]string{late, strange, late}, 3, []api.Outcome{unknown("s"), unknown("s"), unknown("s")}},
		{[]string{known, late, old, none}, 3, []api.Outcome{fine, unknown("s"), fine, unsigned("s")}},
		{[]string{eventByBoth(t, 50, "a", "K", "a", "K")}, 0, []api.Outcome{fine}},
		{[]string{eventByBoth(t, 50, "x", "K", "a", "K")}, 3, []api.Outcome{unknown("s")}},
		{[]string{eventByBoth(t, 50, "a", "K", "x", "K")}, 3, []api.Outcome{unknown("t")}},
		{[]string{eventByBoth(t, 50, "x", "K", "x", "K")}, 6, []api.Outcome{unknown("s")}},
		// The sender is wanted whatever is wrong with the origin's part.
		{[]string{eventByBoth(t, 50, "", "", "x", "K")}, 3, []api.Outcome{unsigned("s")}},
		{[]string{eventByBoth(t, 50, "a", "J", "x", "K")}, 3, []api.Outcome{unsigned("s")}},
		{[]string{eventByBoth(t, 50, "x", "K", "", "")}, 3, []api.Outcome{unknown("s")}},
		{[]string{eventByBoth(t, 50, "x", "K", "x", "K"), strange, eventBy(t, "t", 101, "a", "K")}, 6, []api.Outcome{unknown("s"), unknown("s"), unknown("t")}},
		{[]string{signedBy(t, `{"origin":"s","sender":"s","ts":50}`, "s", "x", "K")}, 3, []api.Outcome{unknown("s")}},
		// Whose signature is not needed is not wanted.
		{[]string{signedBy(t, known, "t", "x", "K"), signedBy(t, known, "u", "x", "K")}, 0, []api.Outcome{fine, fine}},
		{[]string{eventBy(t, "u", 0, "x", "K"), eventBy(t, "v", 0, "x", "K"), late}, 9, []api.Outcome{unknown("u"), unknown("v"), unknown("s")}},
	} {
		w := bySAndT(t)
		w.Notary.sources = []string{"one", "two"}
		w.judges(c.events, 0, nil, c.asked, c.want...)
	}
}

func TestP15TheFirstFaultIsTold(t *testing.T) {
	replies := []api.Reply{tells("one", "s", inUse(t, "s", "new", "N", 60)), tells("one", "t", inUse(t, "t", "new", "N", 60))}
	for _, origin := range parts {
		for _, sender := range parts {
			w := bySAndT(t)
			w.Notary.sources = []string{"one", "two"}
			want := fine
			if origin.code != api.OK {
				want = api.Outcome{Code: origin.code, Server: "s"}
			} else if sender.code != api.OK {
				want = api.Outcome{Code: sender.code, Server: "t"}
			}
			// Both are asked for, also where the origin's fault is all that is told.
			w.judges([]string{eventByBoth(t, 50, origin.id, origin.key, sender.id, sender.key)}, 0, replies, origin.asked+sender.asked, want)
			if sender.id == "new" {
				w.till("t", "new", "N", 60)
			}
			if sender.code == api.ErrUnknown {
				w.verifies(eventBy(t, "t", 50, "y", "K"), 49, nil, api.ErrUnknown, "t", 0)
			} else {
				w.verifies(eventBy(t, "t", 50, "y", "K"), 49, nil, api.ErrUnknown, "t", 3)
			}
		}
	}
}

func TestP15SeveralEventsWantOneServer(t *testing.T) {
	a50, a60, a61, b90, c5 := eventOf(t, 50, "a", "K"), eventOf(t, 60, "a", "K"), eventOf(t, 61, "a", "K"), eventOf(t, 90, "b", "L"), eventOf(t, 5, "c", "M")
	wrong := eventOf(t, 50, "a", "no")
	either := eventBy(t, "s", 80, "a", "K", "b", "L")
	replies := []api.Reply{
		tells("s", "s", inUse(t, "s", "a", "K", 60)),
		fails("one", "s", inUse(t, "s", "c", "M", 60)),
		tells("two", "s", inUse(t, "s", "b", "L", 90)),
		tells("three", "s", inUse(t, "s", "a", "K", 61)),
	}
	for _, c := range []struct {
		events []string
		asked  int
		want   []api.Outcome
	}{
		{[]string{a50}, 1, []api.Outcome{fine}},
		{[]string{a50, a60}, 1, []api.Outcome{fine, fine}},
		{[]string{a50, wrong}, 1, []api.Outcome{fine, unsigned("s")}},
		{[]string{b90}, 3, []api.Outcome{fine}},
		{[]string{a50, b90}, 3, []api.Outcome{fine, fine}},
		{[]string{either, a50}, 3, []api.Outcome{fine, fine}},
		{[]string{a50, a61}, 4, []api.Outcome{fine, fine}},
		{[]string{a61, b90, either}, 4, []api.Outcome{fine, fine, fine}},
		{[]string{a50, wrong, b90, a61, a60}, 4, []api.Outcome{fine, unsigned("s"), fine, fine, fine}},
		{[]string{c5}, 5, []api.Outcome{unknown("s")}},
		{[]string{a50, c5}, 5, []api.Outcome{fine, unknown("s")}},
		{[]string{a50, b90, c5, a61}, 5, []api.Outcome{fine, fine, unknown("s"), fine}},
		{[]string{eventOf(t, 62, "a", "K"), a61}, 5, []api.Outcome{unknown("s"), fine}},
	} {
		for range len(c.events) {
			c.events, c.want = append(slices.Clone(c.events[1:]), c.events[0]), append(slices.Clone(c.want[1:]), c.want[0])
			w := watchWith(t, "one", "two", "three", "four")
			w.judges(c.events, 0, replies, c.asked, c.want...)
			// Without success or with it: that tells the next asking.
			again := 5
			if slices.Contains(c.want, unknown("s")) {
				again = 0
			}
			w.judges([]string{eventOf(t, 5, "d", "N")}, 49, nil, again, unknown("s"))
		}
	}
}

func TestP15WhoDoesNotWantDoesNotCount(t *testing.T) {
	want := eventOf(t, 50, "new", "N")
	replies := []api.Reply{tells("one", "s", inUse(t, "s", "new", "N", 60)), tells("two", "s", inUse(t, "s", "x", "X", 60))}
	for _, c := range []struct {
		event string
		want  api.Outcome
	}{
		// A name that is not known stands beside one that has its key: with a right string, with a wrong one.
		{eventBy(t, "s", 50, "a", "K", "x", "X"), fine},
		{eventBy(t, "s", 50, "a", "J", "x", "X"), unsigned("s")},
		{eventBy(t, "s", 10, "o", "J", "x", "X"), fine},
		{eventBy(t, "s", 10, "o", "K", "a", "J", "x", "X"), unsigned("s")},
		{`{"origin":"s","ts":50}`, unsigned("s")},
		{`{"origin":"s","signatures":{"s":{"x":["X"]}},"ts":50}`, unsigned("s")},
		{signedBy(t, `{"origin":"s","ts":50}`, "t", "x", "X"), unsigned("s")},
	} {
		for _, events := range [][]string{{c.event, want}, {want, c.event}} {
			w := bySAndT(t)
			w.Notary.sources = []string{"one", "two", "three"}
			outcomes := []api.Outcome{c.want, fine}
			if events[0] == want {
				slices.Reverse(outcomes)
			}
			w.judges(events, 0, replies, 2, outcomes...)
			w.lacks("s", "x", 0)
			w.judges([]string{eventOf(t, 50, "y", "Y")}, 0, nil, 4, unknown("s"))
			// Nor does it make a success of what was none, nor the other way round.
			w = bySAndT(t)
			w.judges([]string{c.event}, 0, replies, 0, c.want)
			w.judges([]string{eventOf(t, 50, "y", "Y")}, 0, nil, 1, unknown("s"))
		}
	}
}

func TestP15TheWait(t *testing.T) {
	const least, most = math.MinInt64, math.MaxInt64
	for _, c := range []struct {
		moment, now int64
		again       bool
	}{
		{0, 0, false}, {0, 1, false}, {0, 49, false}, {0, 50, true}, {0, 51, true}, {0, 5000, true}, {0, most, true}, {0, -1, false}, {0, -50, false}, {0, -51, false}, {0, least, false},
		{most, most, false}, {most, 0, false}, {most, -1, false}, {most, least, false}, {most - 49, most, false}, {most - 50, most, true},
		{least, least, false}, {least, least + 49, false}, {least, least + 50, true}, {least, 0, true}, {least, most, true}, {least + 1, least, false},
	} {
		event, other := eventOf(t, 5, "a", "K"), eventOf(t, 5, "b", "L")
		good := []api.Reply{tells("one", "s", withOld(t, "s", "a", "K", 5))}
		for _, byVerify := range []bool{false, true} {
			w := watchWith(t, "one")
			if byVerify {
				w.verifies(event, c.moment, nil, api.ErrUnknown, "s", 2)
			} else {
				w.judges([]string{event, event}, c.moment, nil, 2, unknown("s"), unknown("s"))
			}
			if c.again {
				w.judges([]string{event, event}, c.now, good, 2, fine, fine)
				continue
			}
			// Another server does not wait with it.
			w.judges([]string{event, other, eventBy(t, "t", 5, "a", "K")}, c.now, good, 2, unknown("s"), unknown("s"), unknown("t"))
			w.lacks("s", "a", least)
			w.verifies(event, c.now, good, api.ErrUnknown, "s", 0)
		}
	}
}

func TestP15TheWaitIsNotDrawnOut(t *testing.T) {
	events := []string{eventOf(t, 5, "a", "K"), eventOf(t, 6, "b", "L")}
	w := watch(t)
	w.judges(events, 0, nil, 1, unknown("s"), unknown("s"))
	for _, now := range []int64{49, -1000, 30, math.MinInt64, 49} {
		w.judges(events, now, nil, 0, unknown("s"), unknown("s"))
	}
	w.judges(events, 50, nil, 1, unknown("s"), unknown("s"))
	w.judges(events, 99, nil, 0, unknown("s"), unknown("s"))
	w.judges(events, 100, nil, 1, unknown("s"), unknown("s"))
	// What is known needs no wait, and what is not known by now is not asked for.
	w.learns(inUse(t, "s", "a", "K", 5), 110, api.OK)
	w.judges(events, 149, nil, 0, fine, unknown("s"))
	w.judges(events, 150, []api.Reply{tells("s", "s", withOld(t, "s", "b", "L", 6))}, 1, fine, fine)
	w.judges(events, 150, nil, 0, fine, fine)
}

func TestP15OneGotItsKeyAndAnotherDidNot(t *testing.T) {
	got, not := eventOf(t, 50, "a", "K"), eventOf(t, 61, "a", "K")
	replies := []api.Reply{tells("one", "s", inUse(t, "s", "a", "K", 60)), tells("two", "s", inUse(t, "s", "b", "L", 70))}
	for _, events := range [][]string{{got, not}, {not, got}} {
		want := []api.Outcome{fine, unknown("s")}
		if events[0] == not {
			slices.Reverse(want)
		}
		w := watchWith(t, "one", "two")
		w.judges(events, 0, replies, 3, want...)
		w.till("s", "a", "K", 60)
		w.till("s", "b", "L", 70)
		w.answers("s", countersigned(t, replies[1].Text, "me", "mine", "secret"))
		// It was asked without success, though one of the two was helped.
		w.judges(events, 49, []api.Reply{tells("s", "s", inUse(t, "s", "a", "K", 61))}, 0, want...)
		w.verifies(not, 49, nil, api.ErrUnknown, "s", 0)
		w.verifies(got, 49, nil, api.OK, "", 0)
		w.verifies(eventOf(t, 70, "b", "L"), 49, nil, api.OK, "", 0)
		w.judges(events, 50, []api.Reply{tells("s", "s", inUse(t, "s", "a", "K", 61))}, 1, fine, fine)
	}
}

func TestP15WhatIsWantedIsSettledAheadOfAllAsking(t *testing.T) {
	first, second := eventOf(t, 50, "a", "K"), eventOf(t, 50, "b", "L")
	ofA, ofB := inUse(t, "s", "a", "K", 60), inUse(t, "s", "b", "L", 60)
	w := watchWith(t, "one", "two")
	// One behind the other, the second event would begin with s again.
	w.judges([]string{first, second}, 0, []api.Reply{tells("s", "s", ofA), tells("one", "s", ofB)}, 2, fine, fine)
	w = watchWith(t, "one", "two")
	w.judges([]string{second, first}, 0, []api.Reply{tells("s", "s", ofA), tells("one", "s", ofB)}, 2, fine, fine)
	// The first event's failure is no reason for the second one to wait: they were asked for together.
	w = watchWith(t, "one", "two")
	w.judges([]string{first, second}, 0, []api.Reply{tells("two", "s", ofB)}, 3, unknown("s"), fine)
	// A sender that no Verify would come to is asked for too.
	both := eventByBoth(t, 50, "a", "K", "a", "K")
	w = watchWith(t, "one", "two")
	w.judges([]string{both, both}, 0, []api.Reply{tells("t", "t", inUse(t, "t", "a", "K", 50))}, 4, unknown("s"), unknown("s"))
	w.till("t", "a", "K", 50)
	w = watchWith(t, "one", "two")
	w.verifies(both, 0, []api.Reply{tells("t", "t", inUse(t, "t", "a", "K", 50))}, api.ErrUnknown, "s", 3)
	w.lacks("t", "a", 0)
}

func TestP15NoneIsAskedForAgain(t *testing.T) {
	// The key that comes in is too old for the other event: it stays unknown, though it could be asked for alone.
	w := watch(t)
	event := eventOf(t, 1001, "a", "K")
	replies := []api.Reply{tells("s", "s", inUse(t, "s", "a", "K", 5000))}
	w.judges([]string{event, eventOf(t, 1000, "a", "K")}, 0, replies, 1, unknown("s"), fine)
	w.judges([]string{event}, 49, replies, 0, unknown("s"))
	w.judges([]string{event}, 50, replies, 1, fine)
	// As sender of the one and origin of the other: asked for once.
	w = watchWith(t, "one")
	w.judges([]string{eventByBoth(t, 5, "a", "K", "a", "K"), eventBy(t, "t", 5, "b", "L"), eventBy(t, "t", 5, "a", "K")}, 0, []api.Reply{tells("s", "s", inUse(t, "s", "a", "K", 5)), tells("one", "t", inUse(t, "t", "a", "K", 5))}, 3,
		fine, unknown("t"), fine)
	w.judges([]string{eventBy(t, "t", 5, "b", "L"), eventBy(t, "s", 5, "b", "L")}, 0, nil, 2, unknown("t"), unknown("s"))
}

func TestP15TheKeyComesButTheStringIsWrong(t *testing.T) {
	w := watchWith(t, "one", "two")
	event := eventBy(t, "s", 200, "a", "wrong", "b", "L")
	replies := []api.Reply{tells("one", "s", inUse(t, "s", "a", "K", 200)), tells("two", "s", inUse(t, "s", "b", "L", 200))}
	w.judges([]string{event, event}, 0, replies, 2, unsigned("s"), unsigned("s"))
	w.lacks("s", "b", 0)
	// Beside an event that has to go on to the next source, it profits.
	w = watchWith(t, "one", "two")
	w.judges([]string{event, eventOf(t, 200, "b", "L")}, 0, replies, 3, fine, fine)
}

func TestP15ServersDoNotHangOnEachOther(t *testing.T) {
	ofS, ofT := inUse(t, "s", "a", "K", 60), inUse(t, "t", "a", "K", 60)
	s, u := eventOf(t, 50, "a", "K"), eventBy(t, "u", 50, "a", "K")
	bothWant := []string{s, eventBy(t, "t", 50, "a", "K")}
	for range 20 {
		// Documents of the other server are not learned, though it is wanted as well.
		w := watchWith(t, "one")
		w.judges(bothWant, 0, []api.Reply{tells("s", "s", ofT), tells("t", "t", ofS), tells("one", "s", ofT), tells("one", "t", ofS)}, 4, unknown("s"), unknown("t"))
		w.lacks("s", "a", 0)
		w.lacks("t", "a", 0)
		w.answersNot("s", api.ErrUnknown)
		w.answersNot("t", api.ErrUnknown)
		// What one is told helps itself alone; one's failure is not the other's.
		w = watchWith(t, "one")
		w.judges(bothWant, 0, []api.Reply{tells("s", "s", ofT), tells("one", "s", ofS), tells("one", "t", ofS)}, 4, fine, unknown("t"))
		w.judges(bothWant, 49, nil, 0, fine, unknown("t"))
		w.judges([]string{eventOf(t, 50, "b", "L")}, 49, nil, 2, unknown("s"))
		w.judges(bothWant, 50, []api.Reply{tells("t", "t", ofT)}, 1, fine, fine)
		// A conflict of one server, a wait of another, and a success.
		w = watchWith(t, "one")
		w.learns(inUse(t, "s", "a", "other", 5), 0, api.OK)
		w.verifies(u, 0, nil, api.ErrUnknown, "u", 2)
		w.judges(append(bothWant, u), 1, []api.Reply{tells("s", "s", ofS), tells("one", "t", ofT), tells("u", "u", inUse(t, "u", "a", "K", 60))}, 4, unknown("s"), fine, unknown("u"))
		w.till("s", "a", "other", 5)
		w.lacks("u", "a", 0)
		// The servers are sources of each other.
		w = watchWith(t, "s", "t")
		w.judges(bothWant, 0, []api.Reply{tells("t", "s", ofS), tells("s", "t", ofT)}, 4, fine, fine)
		w.answers("s", countersigned(t, ofS, "me", "mine", "secret"))
		w.answers("t", countersigned(t, ofT, "me", "mine", "secret"))
	}
}

func TestP15VerifyAndKeyBehindMany(t *testing.T) {
	events := []string{eventOf(t, 50, "a", "K"), eventBy(t, "t", 50, "a", "K"), eventByBoth(t, 50, "a", "K", "b", "L")}
	first := inUse(t, "s", "a", "K", 60)
	w := watchWith(t, "one")
	w.judges(events, 10, []api.Reply{tells("one", "s", first), tells("t", "t", inUse(t, "t", "a", "K", 60))}, 4, fine, fine, unknown("t"))
	w.till("s", "a", "K", 60)
	w.till("t", "a", "K", 60)
	w.answers("s", countersigned(t, first, "me", "mine", "secret"))
	w.verifies(events[0], 10, nil, api.OK, "", 0)
	w.verifies(events[1], 10, nil, api.OK, "", 0)
	w.verifies(events[2], 59, nil, api.ErrUnknown, "t", 0)
	w.verifies(eventOf(t, 61, "a", "K"), 10, nil, api.ErrUnknown, "s", 2)
	w.judges([]string{eventOf(t, 61, "a", "K"), events[2]}, 59, nil, 0, unknown("s"), unknown("t"))
	w.learns(inUse(t, "t", "b", "X", 60), 59, api.OK)
	w.judges(events, 59, nil, 0, fine, fine, unsigned("t"))
	w.learns(inUse(t, "t", "b", "L", 60), 59, api.ErrConflict)
	w.verifies(events[2], 59, nil, api.ErrSignature, "t", 0)
}

func TestP15LearnedAtNow(t *testing.T) {
	for _, c := range []struct{ now, till int64 }{{0, 1000}, {-1000, 0}, {1, 1001}, {4000, 5000}, {4001, 5000}, {math.MaxInt64, 5000}} {
		w := watch(t)
		w.judges([]string{eventOf(t, c.till, "a", "K"), eventOf(t, c.till+1, "a", "K")}, c.now, []api.Reply{tells("s", "s", inUse(t, "s", "a", "K", 5000))}, 1, fine, unknown("s"))
		w.till("s", "a", "K", c.till)
	}
}

// crowd is many servers, each of which is known to itself, to the source one, to two or to nobody.
func crowd(t *testing.T, size int) (events []string, replies []api.Reply, want []api.Outcome, asked int) {
	t.Helper()
	for i := range size {
		server := "server" + strconv.Itoa(i)
		text := inUse(t, server, "a", "K"+server, 60)
		how := i % 4
		if how < 3 {
			replies, want = append(replies, tells([]string{server, "one", "two"}[how], server, text)), append(want, fine)
		} else {
			replies, want = append(replies, fails("two", server, text)), append(want, unknown(server))
		}
		events = append(events, eventBy(t, server, 50, "a", "K"+server))
		asked += min(how+1, 3)
	}
	return events, replies, want, asked
}

func TestP15ManyServers(t *testing.T) {
	events, replies, want, asked := crowd(t, 400)
	for range 5 {
		w := watchWith(t, "one", "two")
		w.judges(events, 0, replies, asked, want...)
		w.judges(events, 49, replies, 0, want...)
		for i := range events {
			server := "server" + strconv.Itoa(i)
			if want[i] == fine {
				w.till(server, "a", "K"+server, 60)
				w.answers(server, countersigned(t, replies[i].Text, "me", "mine", "secret"))
			} else {
				w.lacks(server, "a", 0)
				w.answersNot(server, api.ErrUnknown)
			}
		}
		w.judges(events, 50, nil, 300, want...)
	}
}

func TestP2ManyIsTheSameEveryTime(t *testing.T) {
	events, replies, want, asked := crowd(t, 24)
	events = append(events, eventByBoth(t, 50, "a", "K", "a", "K"), eventOf(t, 70, "b", "L"), "{", eventBy(t, "t", 50, "x", "X"))
	want = append(want, fine, fine, api.Outcome{Code: api.ErrJSON}, unknown("t"))
	replies = append(replies, tells("s", "s", inUse(t, "s", "a", "K", 60)), tells("two", "s", inUse(t, "s", "b", "L", 80)), tells("one", "t", inUse(t, "t", "a", "K", 55)))
	for range 300 {
		w := watchWith(t, "one", "two")
		w.judges(events, 0, replies, asked+3+3, want...)
		w.judges(events, 49, replies, 0, want...)
	}
}

// P15: servers are asked at once: no server is answered for before all have begun to ask.
func TestP15EachServerInAGoroutineOfItsOwn(t *testing.T) {
	const size = 50
	n := New("me", "mine", "secret", []string{"one", "two"})
	wanted := map[string][]claim{}
	for i := range size {
		server := "server" + strconv.Itoa(i)
		wanted[server] = []claim{{server: server, signatures: []signature{{"a", "x"}}}}
	}
	var begun sync.WaitGroup
	begun.Add(size)
	var lock sync.Mutex
	order := map[string][]string{}
	ask := func(source, server string) (string, error) {
		if source == server {
			begun.Done()
			begun.Wait()
		}
		lock.Lock()
		defer lock.Unlock()
		order[server] = append(order[server], source)
		return "", errFails
	}
	done := make(chan int)
	go func() { done <- n.fetchAll(wanted, 0, ask) }()
	select {
	case asked := <-done:
		if asked != 3*size {
			t.Errorf("asked %d times, want %d", asked, 3*size)
		}
	case <-time.After(time.Minute):
		t.Fatal("the servers wait for each other")
	}
	// All have ended by now: no lock is needed, and the sources of each were asked one behind the other.
	for server := range wanted {
		if want := []string{server, "one", "two"}; !slices.Equal(order[server], want) {
			t.Errorf("%q were asked for %q, want %q", order[server], server, want)
		}
	}
}

// The lock covers all that is known, whichever call comes to it.
func TestManyBesideOtherCalls(t *testing.T) {
	events, replies, want, _ := crowd(t, 40)
	n := New("me", "mine", "secret", []string{"one", "two"})
	var callers sync.WaitGroup
	for range 8 {
		callers.Add(1)
		go func() {
			defer callers.Done()
			if got, _ := n.Many(events, 0, replies); len(got) != len(want) {
				t.Errorf("%d outcomes", len(got))
			}
			for i, event := range events {
				n.Learn(replies[i].Text, 0)
				n.Key("server0", "a", 0)
				n.Answer("server0")
				n.Verify(event, 0, replies)
			}
		}()
	}
	callers.Wait()
	if got, asked := n.Many(events, 0, nil); asked != 0 || slices.ContainsFunc(got, func(o api.Outcome) bool { return o != fine }) {
		t.Errorf("Many = %+v, %d", got, asked)
	}
}

func TestP2ManysListsAreTheCallers(t *testing.T) {
	texts := []string{eventOf(t, 50, "a", "K"), "{}", eventBy(t, "t", 50, "a", "K"), eventOf(t, 61, "a", "K"), "behind"}
	answers := []api.Reply{fails("s", "s", "no"), tells("one", "s", inUse(t, "s", "a", "K", 60)), tells("t", "t", inUse(t, "t", "a", "K", 60)), tells("two", "s", "behind")}
	events, replies, sources := slices.Clone(texts), slices.Clone(answers), []string{"one", "two"}
	w := watchWith(t, sources...)
	want := []api.Outcome{fine, {Code: api.ErrEvent}, fine, unknown("s")}
	got, asked := w.Many(events[:4], 0, replies[:3])
	if !slices.Equal(got, want) || asked != 4 {
		t.Errorf("Many = %+v, %d, want %+v", got, asked, want)
	}
	if !slices.Equal(events, texts) || !slices.Equal(replies, answers) || !slices.Equal(sources, []string{"one", "two"}) {
		t.Errorf("the lists are %q, %#v, %q", events, replies, sources)
	}
	kept := countersigned(t, answers[1].Text, "me", "mine", "secret")
	for i := range events {
		events[i] = "written"
	}
	for i := range replies {
		replies[i] = tells("s", "s", inUse(t, "s", "a", "K", 70))
	}
	for i := range got {
		got[i] = unsigned("written")
	}
	got = append(got, unsigned("written"))
	w.answers("s", kept)
	w.till("s", "a", "K", 60)
	w.judges(texts[:4], 0, replies, 0, want...)
	again, _ := w.Many(texts[:4], 0, nil)
	another, _ := w.Many(texts[:4], 0, nil)
	again[0] = unsigned("written")
	if !slices.Equal(another, want) || got[0] != unsigned("written") {
		t.Errorf("the lists of two calls are one: %+v", another)
	}
}
