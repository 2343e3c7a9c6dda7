package notary

import (
	"errors"
	"math"
	"slices"
	"strings"
	"testing"

	"notary/api"
)

// whoIsAsked are the sources that are asked for s and t, by the words of P14.
var whoIsAsked = []struct{ sources, s, t []string }{
	{nil, []string{"s"}, []string{"t"}},
	{[]string{}, []string{"s"}, []string{"t"}},
	{[]string{"one"}, []string{"s", "one"}, []string{"t", "one"}},
	{[]string{"two", "one", "three"}, []string{"s", "two", "one", "three"}, []string{"t", "two", "one", "three"}},
	{[]string{"s"}, []string{"s"}, []string{"t", "s"}},
	{[]string{"one", "s", "two"}, []string{"s", "one", "two"}, []string{"t", "one", "s", "two"}},
	{[]string{"s", "s", "one", "s"}, []string{"s", "one"}, []string{"t", "s", "s", "one", "s"}},
	{[]string{"one", "s", "two", "one"}, []string{"s", "one", "two", "one"}, []string{"t", "one", "s", "two", "one"}},
	{[]string{"one", "one"}, []string{"s", "one", "one"}, []string{"t", "one", "one"}},
	{[]string{"", "S", "\xff", "me"}, []string{"s", "", "S", "\xff", "me"}, []string{"t", "", "S", "\xff", "me"}},
}

func TestP14WhoIsAsked(t *testing.T) {
	for _, c := range whoIsAsked {
		for server, want := range map[string][]string{"s": c.s, "t": c.t} {
			event := signedBy(t, `{"origin":"`+server+`","ts":5}`, server, "a", "K")
			watchWith(t, c.sources...).verifies(event, 0, nil, api.ErrUnknown, server, len(want))
			for _, source := range want {
				// One source alone can tell: how often was asked tells where it stands.
				w := watchWith(t, c.sources...)
				w.verifies(event, 0, []api.Reply{tells(source, server, inUse(t, server, "a", "K", 5))}, api.OK, "", 1+slices.Index(want, source))
			}
			for _, source := range []string{"other", "on", "onee", "T", "\xfe", "a"} {
				w := watchWith(t, c.sources...)
				w.verifies(event, 0, []api.Reply{tells(source, server, inUse(t, server, "a", "K", 5))}, api.ErrUnknown, server, len(want))
			}
		}
	}
}

func TestP14InWhichOrder(t *testing.T) {
	for _, c := range whoIsAsked {
		for server, want := range map[string][]string{"s": c.s, "t": c.t} {
			n := New("me", "mine", "secret", c.sources)
			var got []string
			asked := n.fetch(server, 0, func(source, of string) (string, error) {
				if of != server {
					t.Errorf("%q was asked for %q", source, of)
				}
				got = append(got, source)
				return "", errFails
			}, func() bool { return true })
			if asked != len(want) || !slices.Equal(got, want) {
				t.Errorf("of %q for %q: %d, %q, want %q", c.sources, server, asked, got, want)
			}
		}
	}
}

func TestP14TheFirstReplyCounts(t *testing.T) {
	good, late := inUse(t, "s", "a", "K", 200), inUse(t, "s", "a", "K", 100)
	event := eventOf(t, 200, "a", "K")
	for _, c := range []struct {
		replies []api.Reply
		code    api.Errno
		asked   int
	}{
		{nil, api.ErrUnknown, 3},
		{[]api.Reply{}, api.ErrUnknown, 3},
		{[]api.Reply{{}}, api.ErrUnknown, 3},
		{[]api.Reply{tells("s", "s", good)}, api.OK, 1},
		{[]api.Reply{fails("s", "s", good)}, api.ErrUnknown, 3},
		{[]api.Reply{fails("s", "s", good), tells("s", "s", good)}, api.ErrUnknown, 3},
		{[]api.Reply{tells("s", "s", good), fails("s", "s", "")}, api.OK, 1},
		{[]api.Reply{fails("s", "s", ""), tells("one", "s", good)}, api.OK, 2},
		{[]api.Reply{fails("s", "s", ""), fails("one", "s", ""), tells("two", "s", good)}, api.OK, 3},
		{[]api.Reply{tells("two", "s", good), tells("one", "s", good), tells("s", "s", good)}, api.OK, 1},
		{[]api.Reply{tells("two", "s", good), tells("one", "s", good)}, api.OK, 2},
		{[]api.Reply{tells("two", "s", good)}, api.OK, 3},
		{[]api.Reply{tells("s", "s", ""), tells("s", "s", good)}, api.ErrUnknown, 3},
		{[]api.Reply{tells("s", "s", late), tells("s", "s", good)}, api.ErrUnknown, 3},
		{[]api.Reply{tells("s", "s", good), tells("s", "s", late)}, api.OK, 1},
		{[]api.Reply{tells("s", "t", good)}, api.ErrUnknown, 3},
		{[]api.Reply{fails("s", "t", good), tells("s", "", good), tells("s", "S", good), tells("s", "s", good)}, api.OK, 1},
		{[]api.Reply{tells("", "s", good), tells("t", "s", good), tells("S", "s", good)}, api.ErrUnknown, 3},
		{[]api.Reply{tells("s", "one", good), tells("one", "one", good)}, api.ErrUnknown, 3},
		{[]api.Reply{tells("one", "t", "{}"), fails("one", "u", ""), tells("one", "s", good), tells("one", "s", "")}, api.OK, 2},
		{slices.Repeat([]api.Reply{fails("two", "t", "")}, 1000), api.ErrUnknown, 3},
		{append(slices.Repeat([]api.Reply{tells("two", "t", good)}, 1000), tells("two", "s", good)), api.OK, 3},
	} {
		server := "s"
		if c.code == api.OK {
			server = ""
		}
		watchWith(t, "one", "two").verifies(event, 0, c.replies, c.code, server, c.asked)
	}
}

func TestP14TextsThatAreNoDocument(t *testing.T) {
	good := inUse(t, "s", "a", "K", 200)
	event := eventOf(t, 200, "a", "K")
	texts := append(append(wrongTexts(), otherValues()...), "{}", plainDocument, good+strings.Repeat(" ", 601-len(good)), strings.Replace(good, "200", "201", 1), strings.Replace(good, `"a":{`, `"":{`, 1), strings.Replace(good, `:200`, `:-200`, 1), "["+good+"]", event,
		signedBy(t, `{"server_name":"s","valid_until_ts":200,"verify_keys":{"a":{"key":"K"}}}`, "s", "a", "J"), signedBy(t, `{"server_name":"s","valid_until_ts":200,"verify_keys":{"a":{"key":"K"}}}`, "t", "a", "K"))
	for _, text := range texts {
		w := watchWith(t, "one")
		w.verifies(event, 0, []api.Reply{tells("s", "s", text)}, api.ErrUnknown, "s", 2)
		w.lacks("s", "a", 0)
		w.answersNot("s", api.ErrUnknown)
		watchWith(t, "one", "two").verifies(event, 0, []api.Reply{tells("s", "s", text), tells("one", "s", good)}, api.OK, "", 2)
	}
	whole := good + strings.Repeat(" ", 600-len(good))
	watch(t).verifies(event, 0, []api.Reply{tells("s", "s", whole)}, api.OK, "", 1)
}

func TestP14ADocumentOfAnotherServer(t *testing.T) {
	event := eventOf(t, 200, "a", "K")
	other := inUse(t, "t", "a", "K", 200)
	w := watchWith(t, "t", "one")
	w.verifies(event, 0, []api.Reply{tells("s", "s", other), tells("t", "s", other), tells("t", "t", other)}, api.ErrUnknown, "s", 3)
	w.lacks("t", "a", 0)
	w.lacks("s", "a", 0)
	w.answersNot("t", api.ErrUnknown)
	// Nor is it taken in where that server is known.
	w = bySAndT(t)
	before, _ := w.Answer("t")
	w.verifies(event, 0, []api.Reply{tells("s", "s", other)}, api.ErrUnknown, "s", 1)
	w.till("t", "a", "K", 100)
	w.answers("t", before)
	for _, server := range []string{"S", "s ", "me", "ss"} {
		watch(t).verifies(event, 0, []api.Reply{tells("s", "s", inUse(t, server, "a", "K", 200))}, api.ErrUnknown, "s", 1)
	}
}

func TestP14AConflictIsNotTakenIn(t *testing.T) {
	w := watchWith(t, "one", "two")
	before := inUse(t, "s", "b", "X", 7)
	w.learns(before, 0, api.OK)
	conflict := signedBy(t, `{"server_name":"s","valid_until_ts":200,"verify_keys":{"a":{"key":"K"},"b":{"key":"Y"}}}`, "s", "a", "K", "b", "Y")
	event := eventOf(t, 200, "a", "K")
	w.verifies(event, 0, []api.Reply{tells("s", "s", conflict), tells("one", "s", conflict)}, api.ErrUnknown, "s", 3)
	w.lacks("s", "a", 0)
	w.till("s", "b", "X", 7)
	w.answers("s", countersigned(t, before, "me", "mine", "secret"))
	w.verifies(event, 50, []api.Reply{tells("s", "s", conflict), tells("one", "s", inUse(t, "s", "a", "K", 200))}, api.OK, "", 2)
	// What one source told in the same asking stands against the next one.
	w = watchWith(t, "one", "two")
	w.verifies(event, 0, []api.Reply{tells("s", "s", before), tells("one", "s", conflict)}, api.ErrUnknown, "s", 3)
	w.till("s", "b", "X", 7)
	w.lacks("s", "a", 0)
}

func TestP14WhatDoesNotHelpIsLearned(t *testing.T) {
	event := signedBy(t, `{"origin":"s","ts":200}`, "s", "a", "K", "b", "L")
	early, elsewhere := inUse(t, "s", "a", "K", 199), inUse(t, "s", "c", "M", 500)
	w := watchWith(t, "one", "two", "three")
	w.verifies(event, 0, []api.Reply{tells("s", "s", early), tells("one", "s", elsewhere), tells("three", "s", "{}")}, api.ErrUnknown, "s", 4)
	w.till("s", "a", "K", 199)
	w.till("s", "c", "M", 500)
	w.answers("s", countersigned(t, elsewhere, "me", "mine", "secret"))
	// Any of the event's names will do, and what comes behind it is not asked for.
	helps := withOld(t, "s", "b", "L", 200)
	w.verifies(event, 50, []api.Reply{tells("one", "s", helps), tells("two", "s", inUse(t, "s", "d", "N", 1))}, api.OK, "", 2)
	w.till("s", "b", "L", 200)
	w.lacks("s", "d", 0)
	w.answers("s", countersigned(t, helps, "me", "mine", "secret"))
	// The same text may help on the second asking only: it is learned at another moment.
	long := inUse(t, "s", "a", "K", 5000)
	w = watch(t)
	w.verifies(eventOf(t, 1001, "a", "K"), 0, []api.Reply{tells("s", "s", long)}, api.ErrUnknown, "s", 1)
	w.till("s", "a", "K", 1000)
	w.verifies(eventOf(t, 1001, "a", "K"), 50, []api.Reply{tells("s", "s", long)}, api.OK, "", 1)
	w.till("s", "a", "K", 1050)
}

func TestP14LearnedAtNow(t *testing.T) {
	for _, c := range []struct{ now, till int64 }{{0, 1000}, {-1000, 0}, {1, 1001}, {4000, 5000}, {4001, 5000}, {math.MaxInt64, 5000}, {math.MaxInt64 - 1000, 5000}} {
		replies := []api.Reply{tells("s", "s", inUse(t, "s", "a", "K", 5000))}
		w := watch(t)
		w.verifies(eventOf(t, c.till, "a", "K"), c.now, replies, api.OK, "", 1)
		w.till("s", "a", "K", c.till)
		watch(t).verifies(eventOf(t, c.till+1, "a", "K"), c.now, replies, api.ErrUnknown, "s", 1)
	}
	w := watch(t)
	w.verifies(eventOf(t, 0, "a", "K"), math.MinInt64, []api.Reply{tells("s", "s", inUse(t, "s", "a", "K", 5000))}, api.ErrUnknown, "s", 1)
	w.till("s", "a", "K", math.MinInt64+1000)
}

func TestP14TheKeyComesButTheStringIsWrong(t *testing.T) {
	w := watchWith(t, "one", "two")
	event := signedBy(t, `{"origin":"s","ts":200}`, "s", "a", "wrong", "b", "L")
	replies := []api.Reply{tells("one", "s", inUse(t, "s", "a", "K", 200)), tells("two", "s", inUse(t, "s", "b", "L", 200))}
	// A key has come: nobody else is asked, though the next source would tell of the key that signed.
	w.verifies(event, 0, replies, api.ErrSignature, "s", 2)
	w.verifies(event, 0, replies, api.ErrSignature, "s", 0)
	w.lacks("s", "b", 0)
	// It was asked with success: the wait does not hold.
	w.verifies(eventOf(t, 200, "b", "L"), 0, replies, api.OK, "", 3)
	w.verifies(event, 0, nil, api.OK, "", 0)
}

func TestP14TheWait(t *testing.T) {
	const least, most = math.MinInt64, math.MaxInt64
	for _, c := range []struct {
		moment, now int64
		again       bool
	}{
		{0, 0, false}, {0, 1, false}, {0, 49, false}, {0, 50, true}, {0, 51, true}, {0, 5000, true}, {0, most, true}, {0, -1, false}, {0, -49, false}, {0, -50, false}, {0, -51, false}, {0, least, false},
		{-25, 24, false}, {-25, 25, true}, {-1, 48, false}, {-1, 49, true}, {-1, most, true}, {-2, most, true}, {1, least, false},
		{most, most, false}, {most, most - 1, false}, {most, most - 50, false}, {most, 0, false}, {most, -1, false}, {most, -2, false}, {most, least, false}, {most, least + 49, false}, {most - 49, most, false}, {most - 50, most, true}, {most - 51, most, true}, {most - 1, most, false},
		{least, least, false}, {least, least + 49, false}, {least, least + 50, true}, {least, least + 51, true}, {least, -1, true}, {least, 0, true}, {least, most - 1, true}, {least, most, true}, {least + 1, least, false}, {least + 1, least + 50, false}, {least + 1, least + 51, true}, {least + 49, most, true}, {least + 50, most, true},
	} {
		event := eventOf(t, 5, "a", "K")
		w := watchWith(t, "one")
		w.verifies(event, c.moment, nil, api.ErrUnknown, "s", 2)
		good := []api.Reply{tells("one", "s", withOld(t, "s", "a", "K", 5))}
		if c.again {
			w.verifies(event, c.now, nil, api.ErrUnknown, "s", 2)
		} else {
			w.verifies(event, c.now, good, api.ErrUnknown, "s", 0)
			w.lacks("s", "a", 0)
		}
		other := watchWith(t, "one")
		other.verifies(event, c.moment, nil, api.ErrUnknown, "s", 2)
		if c.again {
			other.verifies(event, c.now, good, api.OK, "", 2)
		}
	}
}

func TestP14TheWaitIsNotDrawnOut(t *testing.T) {
	event := eventOf(t, 5, "a", "K")
	w := watch(t)
	w.verifies(event, 0, nil, api.ErrUnknown, "s", 1)
	// Who is not asked is not asked without success: the moment stays the first one.
	for _, now := range []int64{49, -1000, 30, math.MinInt64, 49} {
		w.verifies(event, now, nil, api.ErrUnknown, "s", 0)
	}
	w.verifies(event, 50, nil, api.ErrUnknown, "s", 1)
	for _, now := range []int64{50, 99, 0, 49} {
		w.verifies(event, now, nil, api.ErrUnknown, "s", 0)
	}
	w.verifies(event, 100, nil, api.ErrUnknown, "s", 1)
	w.verifies(event, 149, nil, api.ErrUnknown, "s", 0)
	w.verifies(event, 150, nil, api.ErrUnknown, "s", 1)
}

func TestP14WhatIsKnownNeedsNoWait(t *testing.T) {
	event := eventOf(t, 5, "a", "K")
	w := watch(t)
	w.verifies(event, 0, nil, api.ErrUnknown, "s", 1)
	w.verifies(eventOf(t, 5, "b", "L"), 10, nil, api.ErrUnknown, "s", 0)
	w.verifies(`{"origin":"s","ts":5}`, 10, nil, api.ErrSignature, "s", 0)
	w.learns(inUse(t, "s", "a", "K", 5), 10, api.OK)
	w.verifies(event, 10, nil, api.OK, "", 0)
	w.verifies(eventOf(t, 5, "a", "J"), 10, nil, api.ErrSignature, "s", 0)
	// That a document was learned does not undo that it was asked in vain.
	good := []api.Reply{tells("s", "s", inUse(t, "s", "b", "L", 5))}
	w.verifies(eventOf(t, 5, "b", "L"), 49, good, api.ErrUnknown, "s", 0)
	w.verifies(eventOf(t, 5, "b", "L"), 50, good, api.OK, "", 1)
}

func TestP14TheWaitIsOneServers(t *testing.T) {
	w := watchWith(t, "one", "t")
	w.verifies(eventOf(t, 5, "a", "K"), 0, nil, api.ErrUnknown, "s", 3)
	event := signedBy(t, `{"origin":"t","ts":5}`, "t", "a", "K")
	w.verifies(event, 0, nil, api.ErrUnknown, "t", 2)
	w.verifies(eventOf(t, 5, "a", "K"), 49, nil, api.ErrUnknown, "s", 0)
	w.verifies(event, 49, nil, api.ErrUnknown, "t", 0)
	// Another event, and another name, of the server waits too.
	w.verifies(eventOf(t, 6, "b", "L"), 49, nil, api.ErrUnknown, "s", 0)
	w.verifies(signedBy(t, `{"origin":"u","ts":5}`, "u", "a", "K"), 49, nil, api.ErrUnknown, "u", 3)
}

func TestP14SuccessBehindAMomentWithout(t *testing.T) {
	w := watch(t)
	replies := []api.Reply{tells("s", "s", inUse(t, "s", "a", "K", 5))}
	w.verifies(eventOf(t, 5, "a", "K"), 100, nil, api.ErrUnknown, "s", 1)
	w.verifies(eventOf(t, 5, "a", "K"), 150, replies, api.OK, "", 1)
	// Success is no moment to wait from.
	w.verifies(eventOf(t, 5, "b", "L"), 149, replies, api.ErrUnknown, "s", 0)
	w.verifies(eventOf(t, 5, "b", "L"), 150, replies, api.ErrUnknown, "s", 1)
	w.verifies(eventOf(t, 5, "b", "L"), 199, replies, api.ErrUnknown, "s", 0)
	w.verifies(eventOf(t, 5, "a", "K"), 199, nil, api.OK, "", 0)
	// And it does not make the moment before forgotten.
	w = watch(t)
	w.verifies(eventOf(t, 5, "a", "K"), 100, nil, api.ErrUnknown, "s", 1)
	w.verifies(eventOf(t, 5, "a", "K"), 200, replies, api.OK, "", 1)
	w.verifies(eventOf(t, 5, "b", "L"), 120, replies, api.ErrUnknown, "s", 0)
	w.verifies(eventOf(t, 5, "b", "L"), 200, []api.Reply{tells("s", "s", inUse(t, "s", "b", "L", 5))}, api.OK, "", 1)
}

func TestP14OriginAndSenderInOneCall(t *testing.T) {
	event := signedBy(t, signedBy(t, `{"origin":"s","sender":"t","ts":5}`, "s", "a", "K"), "t", "b", "L")
	ofS, ofT := inUse(t, "s", "a", "K", 5), inUse(t, "t", "b", "L", 5)
	w := watchWith(t, "one", "s")
	w.verifies(event, 0, []api.Reply{tells("one", "t", ofT), tells("one", "s", ofS)}, api.OK, "", 4)
	w.verifies(event, 0, nil, api.OK, "", 0)
	w = watchWith(t, "one", "s")
	w.verifies(event, 0, []api.Reply{tells("s", "t", ofT), tells("s", "s", ofS)}, api.OK, "", 4)
	w = watchWith(t, "one", "s")
	w.verifies(event, 0, []api.Reply{tells("s", "s", ofS)}, api.ErrUnknown, "t", 4)
	w.till("s", "a", "K", 5)
	w.verifies(event, 49, []api.Reply{tells("t", "t", ofT)}, api.ErrUnknown, "t", 0)
	w.verifies(event, 50, []api.Reply{tells("t", "t", ofT)}, api.OK, "", 1)
	w = watchWith(t, "one", "s")
	w.verifies(event, 0, []api.Reply{tells("t", "t", ofT)}, api.ErrUnknown, "s", 2)
	w.lacks("t", "b", 0)
	w.verifies(event, 30, []api.Reply{tells("s", "s", ofS), tells("t", "t", ofT)}, api.ErrUnknown, "s", 0)
	w.verifies(event, 50, []api.Reply{tells("s", "s", ofS), tells("t", "t", ofT)}, api.OK, "", 2)
	// Both are one server: it is asked for once.
	same := signedBy(t, `{"origin":"s","sender":"s","ts":5}`, "s", "a", "K")
	watchWith(t, "one").verifies(same, 0, nil, api.ErrUnknown, "s", 2)
	watchWith(t, "one").verifies(same, 0, []api.Reply{tells("s", "s", ofS)}, api.OK, "", 1)
}

func TestP2NotariesAskBesideEachOther(t *testing.T) {
	one, two := watchWith(t, "x"), watchWith(t, "x", "y")
	event := eventOf(t, 5, "a", "K")
	good := []api.Reply{tells("s", "s", inUse(t, "s", "a", "K", 5))}
	one.verifies(event, 0, nil, api.ErrUnknown, "s", 2)
	two.verifies(event, 0, good, api.OK, "", 1)
	one.verifies(event, 0, good, api.ErrUnknown, "s", 0)
	one.lacks("s", "a", 0)
	two.verifies(eventOf(t, 5, "b", "K"), 0, nil, api.ErrUnknown, "s", 3)
	one.verifies(event, 50, good, api.OK, "", 1)
}

func TestP2ListsAreNotWrittenIntoAndNotKept(t *testing.T) {
	event := eventOf(t, 5, "a", "K")
	replies := []api.Reply{tells("x", "s", "{}"), fails("s", "s", "no"), tells("one", "s", inUse(t, "s", "c", "M", 5)), tells("one", "t", ""), tells("two", "s", inUse(t, "s", "a", "K", 4)), tells("two", "u", "")}
	before := slices.Clone(replies)
	sources := []string{"one", "two", "s", "three"}
	w := watchWith(t, sources[:3]...)
	copy(sources, []string{"w", "x", "y", "z"})
	w.verifies(event, 0, replies[:5], api.ErrUnknown, "s", 3)
	if !slices.Equal(replies, before) {
		t.Errorf("the replies are %#v", replies)
	}
	want := countersigned(t, replies[4].Text, "me", "mine", "secret")
	for i := range replies {
		replies[i] = tells("s", "s", inUse(t, "s", "a", "K", 5))
	}
	w.answers("s", want)
	w.till("s", "a", "K", 4)
	w.till("s", "c", "M", 5)
	w.verifies(event, 50, nil, api.ErrUnknown, "s", 3)
	if !slices.Equal(sources, []string{"w", "x", "y", "z"}) {
		t.Errorf("the sources are %q", sources)
	}
}

func TestAskingTellsWhy(t *testing.T) {
	n := New("me", "mine", "secret", nil)
	n.Learn(inUse(t, "s", "b", "X", 7), 0)
	ask := answering([]api.Reply{fails("one", "s", ""), tells("two", "s", "{}"), tells("three", "s", inUse(t, "t", "a", "K", 5)), tells("four", "s", inUse(t, "s", "b", "Y", 5))})
	for _, c := range []struct {
		source string
		why    error
		tells  string
	}{
		{"none", errFails, "the source fails"},
		{"one", errFails, "the source fails"},
		{"two", errKind, "no document of keys: server_name: not there, or of another kind"},
		{"three", errOther, "no document of keys: server_name: of another server"},
		{"four", errConflict, "b: the name is known with another key"},
	} {
		if err := n.learnFrom(c.source, "s", 0, ask); !errors.Is(err, c.why) || err.Error() != c.tells {
			t.Errorf("%q: %v, want %q", c.source, err, c.tells)
		}
	}
}

func TestVerifyingTellsWhy(t *testing.T) {
	for _, c := range []struct {
		text  string
		why   error
		tells string
	}{
		{`{"ts":1}`, errKind, "no event: origin: not there, or of another kind"},
		{`{"origin":"","ts":1}`, errName, "no event: origin: no name"},
		{`{"origin":"s","sender":"","ts":1}`, errName, "no event: sender: no name"},
		{`{"origin":"s","ts":-1}`, errBelow, "no event: ts: a number below 0"},
	} {
		if _, err := readEvent(c.text); !errors.Is(err, c.why) || err.Error() != c.tells {
			t.Errorf("%q: %v, want %q", c.text, err, c.tells)
		}
	}
	k := newKnown()
	if err := k.check(claim{server: "s"}); !errors.Is(err, errSignature) || err.Error() != "the server s: a signature is missing or wrong" {
		t.Errorf("%v", err)
	}
	if err := k.check(claim{server: "s", signatures: []signature{{"a", "x"}}}); !errors.Is(err, errUnknown) || err.Error() != "the server s: what is asked for is not known" {
		t.Errorf("%v", err)
	}
}
