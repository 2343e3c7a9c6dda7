package notary

import (
	"encoding/json"
	"math/big"
	"math/rand/v2"
	"slices"
	"strconv"
	"strings"
	"testing"

	"notary/api"
)

// failure is a moment at which it was asked for a server without success.
type failure struct {
	server string
	moment int64
}

// witness tells what a notary must answer to events, by the words of P12 to P14 and by all that came before.
type witness struct {
	history
	sources  []string
	failures []failure
}

// oracleEvent tells by the library's JSON what is said in an event: who must have signed, when, and all members under signatures.
func oracleEvent(text string) (servers []string, ts int64, signatures map[string]any, e api.Errno) {
	if _, e := Message(text); e != api.OK {
		return nil, 0, nil, e
	}
	decoder := json.NewDecoder(strings.NewReader(text))
	decoder.UseNumber()
	var object map[string]any
	if decoder.Decode(&object) != nil {
		return nil, 0, nil, api.ErrJSON
	}
	ts, right := oracleMoment(object["ts"])
	for _, member := range []string{"origin", "sender"} {
		v, there := object[member]
		if member == "sender" && !there {
			continue
		}
		name, isString := v.(string)
		right = right && isString && oracleName(name)
		if !slices.Contains(servers, name) {
			servers = append(servers, name)
		}
	}
	if !right {
		return nil, 0, nil, api.ErrEvent
	}
	signatures, _ = object["signatures"].(map[string]any)
	return servers, ts, signatures, api.OK
}

func (w *witness) verify(text string, now int64, replies []api.Reply) (api.Outcome, int) {
	servers, ts, signatures, e := oracleEvent(text)
	if e != api.OK {
		return api.Outcome{Code: e}, 0
	}
	asked := 0
	for _, server := range servers {
		e := w.signed(text, server, ts, signatures)
		if e == api.ErrUnknown && !w.waits(server, now) {
			asked += w.ask(server, now, replies, func() bool { return w.signed(text, server, ts, signatures) != api.ErrUnknown })
			e = w.signed(text, server, ts, signatures)
		}
		if e != api.OK {
			return api.Outcome{Code: e, Server: server}, asked
		}
	}
	return api.Outcome{}, asked
}

// signed tells of a server what P13 says; ErrUnknown is where P14 begins.
func (w *witness) signed(text, server string, ts int64, signatures map[string]any) api.Errno {
	message, _ := Message(text)
	own, _ := signatures[server].(map[string]any)
	anyString, anyKey := false, false
	for id, v := range own {
		sig, isString := v.(string)
		anyString = anyString || isString
		key, known := w.key(server, id, ts)
		if isString && known && sig == Seal(key, message) {
			return api.OK
		}
		anyKey = anyKey || isString && known
	}
	if anyString && !anyKey {
		return api.ErrUnknown
	}
	return api.ErrSignature
}

func (w *witness) waits(server string, now int64) bool {
	return slices.ContainsFunc(w.failures, func(f failure) bool {
		passed := new(big.Int).Sub(big.NewInt(now), big.NewInt(f.moment))
		return f.server == server && passed.Cmp(big.NewInt(50)) < 0
	})
}

func (w *witness) ask(server string, now int64, replies []api.Reply, enough func() bool) int {
	asked := 0
	for i, source := range append([]string{server}, w.sources...) {
		if i > 0 && source == server {
			continue
		}
		asked++
		first := slices.IndexFunc(replies, func(r api.Reply) bool { return r.Source == source && r.Server == server })
		if first < 0 || replies[first].Fails {
			continue
		}
		document, e := oracleRead(replies[first].Text)
		if e != api.OK || document.Server != server || w.learn(replies[first].Text, now) != api.OK {
			continue
		}
		if enough() {
			return asked
		}
	}
	w.failures = append(w.failures, failure{server, now})
	return asked
}

// events makes random events, documents and replies of few servers, names, keys and moments, so that they often meet.
type events struct{ random *rand.Rand }

func (v events) one(of ...string) string { return of[v.random.IntN(len(of))] }

func (v events) server() string { return v.one("s", "s", "t", "u") }

func (v events) id() string { return v.one("a", "b", "c") }

func (v events) moment() string {
	return v.one("0", "5", "100", "100", "999", "1000", "1001", "1050", "2000", "9007199254740991")
}

// key is mostly the one that stands under that name everywhere, so that conflicts do not stifle all else.
func (v events) key(id string) string {
	if v.random.IntN(12) == 0 {
		return v.one("X", "")
	}
	return "K" + id
}

func (v events) document(server string) string {
	var inUse, old, keys []string
	for _, id := range []string{"a", "b", "c"} {
		key := v.key(id)
		switch v.random.IntN(4) {
		case 0:
			inUse, keys = append(inUse, `"`+id+`":{"key":"`+key+`"}`), append(keys, id, key)
		case 1:
			old = append(old, `"`+id+`":{"expired_ts":`+v.moment()+`,"key":"`+key+`"}`)
		}
	}
	if len(inUse) == 0 {
		inUse, keys = append(inUse, `"d":{"key":"Kd"}`), append(keys, "d", "Kd")
	}
	text := `{"server_name":"` + server + `","valid_until_ts":` + v.moment() + `,"verify_keys":{` + strings.Join(inUse, ",") + `},"old_verify_keys":{` + strings.Join(old, ",") + `}}`
	return v.blur(v.sign(text, server, keys...))
}

func (v events) sign(text, server string, keys ...string) string {
	message, _ := Message(text)
	for i := 0; i < len(keys); i += 2 {
		text, _ = Signed(text, server, keys[i], Seal(keys[i+1], message))
	}
	return text
}

// blur spoils a text now and then.
func (v events) blur(text string) string {
	if v.random.IntN(15) == 0 {
		return mutate(v.random, text)
	}
	return text
}

func (v events) event() string {
	text := `{"origin":"` + v.server() + `","ts":` + v.moment() + `}`
	if v.random.IntN(2) == 0 {
		text = `{"sender":"` + v.server() + `",` + text[1:]
	}
	if v.random.IntN(25) == 0 {
		text = v.one(noEvents()...)
	}
	for _, server := range []string{"s", "t", "u"} {
		for range []int{0, 1, 1, 2}[v.random.IntN(4)] {
			id := v.id()
			text = v.sign(text, server, id, v.key(id))
		}
	}
	if v.random.IntN(10) == 0 {
		text = strings.Replace(text, `"a":"`, `"e":7,"":"`, 1)
	}
	return v.blur(text)
}

func (v events) replies() []api.Reply {
	var replies []api.Reply
	for range v.random.IntN(12) {
		server := v.server()
		about := v.one(server, server, server, server, v.server())
		replies = append(replies, api.Reply{Source: v.one("s", "t", "u", "one", "two"), Server: server, Text: v.document(about), Fails: v.random.IntN(8) == 0})
	}
	return replies
}

// now mostly moves on by about a wait, and sometimes leaps.
func (v events) now(before int64) int64 {
	switch v.random.IntN(20) {
	case 0:
		return randomMoment(v.random)
	case 1, 2:
		return before - v.random.Int64N(60)
	default:
		return before + []int64{0, 0, 1, 25, 49, 50, 51}[v.random.IntN(7)]
	}
}

func TestRandomEventsAsTheWitnessTells(t *testing.T) {
	t.Parallel()
	v := events{rand.New(rand.NewPCG(9, 10))}
	var codes, askings [20]int
	for range 600 {
		sources := slices.Repeat([]string{"one", "s", "two", "one", "t"}, 2)[v.random.IntN(6):][:v.random.IntN(5)]
		n, w := New("me", "mine", "secret", sources), witness{sources: sources}
		var now int64
		for i := range 30 {
			now = v.now(now)
			if v.random.IntN(6) == 0 {
				text := v.document(v.server())
				if got, want := n.Learn(text, now), w.learn(text, now); got != want {
					t.Fatalf("Learn(%q, %d) = %d, want %d", text, now, got, want)
				}
			}
			event, replies := v.event(), v.replies()
			want, asked := w.verify(event, now, replies)
			if got, times := n.Verify(event, now, replies); got != want || times != asked {
				t.Fatalf("Verify(%q, %d, %#v) = %+v, %d, want %+v, %d", event, now, replies, got, times, want, asked)
			}
			codes[want.Code]++
			askings[asked]++
			if i%5 == 4 {
				w.agree(t, n)
			}
		}
	}
	for e, least := range map[api.Errno]int{api.OK: 1000, api.ErrJSON: 200, api.ErrSignature: 3000, api.ErrEvent: 300, api.ErrUnknown: 2000} {
		if codes[e] < least {
			t.Errorf("%d of the events answer %d, too few to tell: %v", codes[e], e, codes)
		}
	}
	for asked := range 6 {
		if askings[asked] < 200 {
			t.Errorf("%d of the events ask %d times, too few to tell: %v", askings[asked], asked, askings)
		}
	}
}

// agree holds what the notary knows against the history.
func (w *witness) agree(t *testing.T, n *Notary) {
	t.Helper()
	for _, server := range []string{"s", "t", "u"} {
		for _, id := range []string{"a", "b", "c", "d"} {
			for _, key := range w.keys(server, id) {
				for _, at := range []int64{key.Till, key.Till + 1} {
					want, there := w.key(server, id, at)
					if got, ok := n.Key(server, id, at); got != want || ok != there {
						t.Fatalf("Key(%q, %q, %d) = %q, %v, want %q, %v", server, id, at, got, ok, want, there)
					}
				}
			}
		}
		want, code := w.answer(server, "me", "mine", "secret")
		if got, e := n.Answer(server); got != want || e != code {
			t.Fatalf("Answer(%q) = %q, %d, want %q, %d", server, got, e, want, code)
		}
	}
}

// checkVerify holds Verify of any text against the witness, with the example's document known.
func checkVerify(t *testing.T, text string) {
	t.Helper()
	n, w := New("me", "mine", "secret", []string{"one"}), witness{sources: []string{"one"}}
	n.Learn(exampleDocument, 0)
	w.learn(exampleDocument, 0)
	for _, replies := range [][]api.Reply{nil, {tells("s", "s", text), tells("one", "s", exampleDocument)}} {
		want, asked := w.verify(text, 0, replies)
		if got, times := n.Verify(text, 0, replies); got != want || times != asked {
			t.Fatalf("Verify(%q, 0, %#v) = %+v, %d, want %+v, %d", text, replies, got, times, want, asked)
		}
	}
}

// P2: one and the same calls, again and again: nothing hangs on the order of a map.
func TestP2VerifyIsTheSameEveryTime(t *testing.T) {
	var members, keys []string
	for i := range 12 {
		id := "k" + strconv.Itoa(i)
		members = append(members, `"`+id+`":{"expired_ts":`+strconv.Itoa(i)+`,"key":""}`)
		keys = append(keys, id, "")
	}
	document := signedBy(t, `{"server_name":"s","valid_until_ts":4,"verify_keys":{"use":{"key":""}},"old_verify_keys":{`+strings.Join(members, ",")+`}}`, "s", "use", "")
	event := signedBy(t, `{"origin":"s","ts":11}`, "s", keys[:20]...)
	whole := signedBy(t, event, "s", keys...)
	for range 200 {
		w := watchWith(t, "one", "two")
		w.verifies(event, 0, []api.Reply{tells("one", "s", document)}, api.ErrUnknown, "s", 3)
		w.verifies(whole, 0, nil, api.OK, "", 0)
	}
}
