package notary

import (
	"math/rand/v2"
	"slices"
	"testing"

	"notary/api"
)

// many tells what P15 says, word by word, one server behind the other. That the servers come out of a map in any order is on purpose: it must not matter.
func (w *witness) many(texts []string, now int64, replies []api.Reply) ([]api.Outcome, int) {
	wanting := map[string][]string{}
	for _, text := range texts {
		servers, ts, signatures, e := oracleEvent(text)
		if e != api.OK {
			continue
		}
		for _, server := range servers {
			if w.signed(text, server, ts, signatures) == api.ErrUnknown {
				wanting[server] = append(wanting[server], text)
			}
		}
	}
	asked := 0
	for server, texts := range wanting {
		if !w.waits(server, now) {
			asked += w.ask(server, now, replies, func() bool { return w.allHaveAKey(texts, server) })
		}
	}
	var outcomes []api.Outcome
	for _, text := range texts {
		outcomes = append(outcomes, w.verifyUnasked(text))
	}
	return outcomes, asked
}

func (w *witness) allHaveAKey(texts []string, server string) bool {
	for _, text := range texts {
		_, ts, signatures, _ := oracleEvent(text)
		if w.signed(text, server, ts, signatures) == api.ErrUnknown {
			return false
		}
	}
	return true
}

func (w *witness) verifyUnasked(text string) api.Outcome {
	servers, ts, signatures, e := oracleEvent(text)
	if e != api.OK {
		return api.Outcome{Code: e}
	}
	for _, server := range servers {
		if e := w.signed(text, server, ts, signatures); e != api.OK {
			return api.Outcome{Code: e, Server: server}
		}
	}
	return api.Outcome{}
}

// twins are notaries that hear and are asked the same, beside the witness of what they must answer.
type twins struct {
	*witness
	notaries []*Notary
}

func newTwins(many int, sources []string) twins {
	w := twins{witness: &witness{sources: sources}}
	for range many {
		w.notaries = append(w.notaries, New("me", "mine", "secret", sources))
	}
	return w
}

func (w twins) learnsSame(t *testing.T, text string, now int64) {
	t.Helper()
	want := w.learn(text, now)
	for _, n := range w.notaries {
		if got := n.Learn(text, now); got != want {
			t.Fatalf("Learn(%q, %d) = %d, want %d", text, now, got, want)
		}
	}
}

func (w twins) verifySame(t *testing.T, event string, now int64, replies []api.Reply) {
	t.Helper()
	want, asked := w.verify(event, now, replies)
	for _, n := range w.notaries {
		if got, times := n.Verify(event, now, replies); got != want || times != asked {
			t.Fatalf("Verify(%q, %d, %#v) = %+v, %d, want %+v, %d", event, now, replies, got, times, want, asked)
		}
	}
}

func (w twins) judgeSame(t *testing.T, events []string, now int64, replies []api.Reply) ([]api.Outcome, int) {
	t.Helper()
	want, asked := w.many(events, now, replies)
	for _, n := range w.notaries {
		if got, times := n.Many(events, now, replies); !slices.Equal(got, want) || times != asked {
			t.Fatalf("Many(%q, %d, %#v) = %+v, %d, want %+v, %d", events, now, replies, got, times, want, asked)
		}
	}
	return want, asked
}

func TestManyRandomEventsAsTheWitnessTells(t *testing.T) {
	t.Parallel()
	v := events{rand.New(rand.NewPCG(11, 12))}
	var codes, askings [40]int
	for range 250 {
		sources := slices.Repeat([]string{"one", "s", "two", "one", "t"}, 2)[v.random.IntN(6):][:v.random.IntN(5)]
		w := newTwins(3, sources)
		var now int64
		for i := range 20 {
			now = v.now(now)
			if v.random.IntN(6) == 0 {
				w.learnsSame(t, v.document(v.server()), now)
			}
			if v.random.IntN(4) == 0 {
				w.verifySame(t, v.event(), now, v.replies())
			}
			var texts []string
			for range v.random.IntN(6) {
				texts = append(texts, v.event())
			}
			outcomes, asked := w.judgeSame(t, texts, now, append(v.replies(), v.replies()...))
			askings[asked]++
			for _, o := range outcomes {
				codes[o.Code]++
			}
			if i%5 == 4 {
				for _, n := range w.notaries {
					w.agree(t, n)
				}
			}
		}
	}
	for e, least := range map[api.Errno]int{api.OK: 1000, api.ErrJSON: 100, api.ErrSignature: 2000, api.ErrEvent: 200, api.ErrUnknown: 1500} {
		if codes[e] < least {
			t.Errorf("%d of the events answer %d, too few to tell: %v", codes[e], e, codes)
		}
	}
	for asked := range 10 {
		if askings[asked] < 50 {
			t.Errorf("%d of the calls ask %d times, too few to tell: %v", askings[asked], asked, askings)
		}
	}
}

// Any text, beside itself and an event that must be asked for, and as a reply. (Not in FuzzText: the fuzzer takes how goroutines run for news of the text.)
func TestManyMutatedTextsAsTheWitnessTells(t *testing.T) {
	t.Parallel()
	random := rand.New(rand.NewPCG(13, 14))
	texts := append(seeds(), exampleDocument, `{"origin":"s","signatures":{"s":{"k0":"78763df6"}},"ts":90}`)
	strange := `{"origin":"s","signatures":{"s":{"a":"x"}},"ts":50}`
	for range 10000 {
		w := newTwins(1, []string{"one"})
		w.learnsSame(t, exampleDocument, 0)
		text := mutate(random, texts[random.IntN(len(texts))])
		w.judgeSame(t, []string{text, strange, text}, 0, []api.Reply{tells("s", "s", text), tells("one", "s", exampleDocument)})
	}
}
