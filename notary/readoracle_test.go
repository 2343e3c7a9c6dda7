package notary

import (
	"encoding/json"
	"maps"
	"math/rand/v2"
	"reflect"
	"slices"
	"sort"
	"strings"
	"testing"

	"notary/api"
)

// oracleRead tells by the library's JSON what Read must answer to a text of which Message is held to be right.
func oracleRead(text string) (api.Document, api.Errno) {
	message, e := Message(text)
	if e != api.OK {
		return api.Document{}, e
	}
	decoder := json.NewDecoder(strings.NewReader(text))
	decoder.UseNumber()
	var object map[string]any
	if err := decoder.Decode(&object); err != nil {
		return api.Document{}, api.ErrJSON
	}
	server, nameRight := object["server_name"].(string)
	until, untilRight := oracleMoment(object["valid_until_ts"])
	inUse, inUseRight := object["verify_keys"].(map[string]any)
	old, oldRight := map[string]any{}, true
	if v, there := object["old_verify_keys"]; there {
		old, oldRight = v.(map[string]any)
	}
	right := nameRight && oracleName(server) && untilRight && inUseRight && oldRight && len(inUse) > 0 && len(inUse) < 5
	document := api.Document{Server: server, Until: until}
	signed := true
	own, _ := object["signatures"].(map[string]any)
	sigs, _ := own[server].(map[string]any)
	for id, v := range inUse {
		member, _ := v.(map[string]any)
		key, keyRight := member["key"].(string)
		_, both := old[id]
		right = right && oracleName(id) && keyRight && !both
		signed = signed && sigs[id] == any(Seal(key, message))
		document.Keys = append(document.Keys, api.Key{ID: id, Key: key, Till: until})
	}
	for id, v := range old {
		member, _ := v.(map[string]any)
		key, keyRight := member["key"].(string)
		till, tillRight := oracleMoment(member["expired_ts"])
		right = right && oracleName(id) && keyRight && tillRight
		document.Keys = append(document.Keys, api.Key{ID: id, Key: key, Old: true, Till: till})
	}
	sort.Slice(document.Keys, func(i, j int) bool { return document.Keys[i].ID < document.Keys[j].ID })
	switch {
	case !right:
		return api.Document{}, api.ErrDocument
	case !signed:
		return api.Document{}, api.ErrSignature
	}
	return document, api.OK
}

func oracleName(text string) bool { return text != "" && len(text) < 21 }

func oracleMoment(v any) (int64, bool) {
	number, ok := v.(json.Number)
	n, err := number.Int64()
	return n, ok && err == nil && n >= 0
}

func checkRead(t *testing.T, text string) {
	t.Helper()
	want, code := oracleRead(text)
	if got, e := Read(text); e != code || !reflect.DeepEqual(got, want) {
		t.Fatalf("Read(%q) = %+v, %d, want %+v, %d", text, got, e, want, code)
	}
	if e := New("me", "mine", "secret", nil).Learn(text, 0); e != code {
		t.Fatalf("Learn(%q, 0) = %d, want %d", text, e, code)
	}
}

// documents makes random texts that are documents of keys, or nearly so: slips of a hundred choices are made wrong.
type documents struct {
	random *rand.Rand
	slips  int
}

func (d documents) pick(good, bad []string) string {
	if d.random.IntN(100) < d.slips {
		return bad[d.random.IntN(len(bad))]
	}
	return good[d.random.IntN(len(good))]
}

func (d documents) name() string {
	return d.pick([]string{"a", "b", "c", "d", "B", "é", "k1", "k10", "k2", "twenty bytes of name"}, []string{"", "twenty-one bytes long"})
}

func (d documents) text() string {
	return d.pick([]string{`"K"`, `"J"`, `""`, `"\u004b"`, `"é"`}, otherValues()[:5])
}

func (d documents) moment() string {
	return d.pick([]string{"0", "5", "90", "500", "9007199254740991"}, append(otherValues()[4:], "null", "-9"))
}

// object writes members, with some left out and some put in.
func (d documents) object(members ...string) string {
	var parts []string
	for _, member := range members {
		parts = append(parts, d.pick([]string{member}, []string{`"more":1`, `"less":{}`}))
	}
	seen := map[string]bool{}
	var once []string
	for _, part := range parts {
		if key := strings.SplitAfter(part, ":")[0]; !seen[key] {
			seen[key] = true
			once = append(once, part)
		}
	}
	d.random.Shuffle(len(once), func(i, j int) { once[i], once[j] = once[j], once[i] })
	return d.pick([]string{"{" + strings.Join(once, ",") + "}"}, otherValues())
}

func (d documents) list(most int, one func() string) string {
	var members []string
	for range d.random.IntN(most + 1) {
		members = append(members, `"`+d.name()+`":`+one())
	}
	return d.object(members...)
}

func (d documents) plain() string {
	members := []string{`"server_name":"` + d.name() + `"`, `"valid_until_ts":` + d.moment(), `"verify_keys":` + d.list(5, func() string { return d.object(`"key":` + d.text()) })}
	if d.random.IntN(3) > 0 {
		members = append(members, `"old_verify_keys":`+d.list(3, func() string { return d.object(`"key":`+d.text(), `"expired_ts":`+d.moment()) }))
	}
	if d.random.IntN(4) == 0 {
		members = append(members, `"unsigned":{"a":1}`)
	}
	return d.object(members...)
}

// signed is a text with the signatures that its keys in use owe, most of the time.
func (d documents) signed(text string) string {
	var shape struct {
		Server_name string
		Verify_keys map[string]struct{ Key string }
	}
	message, e := Message(text)
	if e != api.OK || json.Unmarshal([]byte(text), &shape) != nil {
		return text
	}
	for _, id := range slices.Sorted(maps.Keys(shape.Verify_keys)) {
		key := shape.Verify_keys[id].Key
		if sig := d.pick([]string{Seal(key, message)}, []string{"", "00000000"}); sig != "" {
			text, _ = Signed(text, shape.Server_name, id, sig)
		}
	}
	return text
}

func TestRandomDocumentsAsTheOracleTells(t *testing.T) {
	t.Parallel()
	random := rand.New(rand.NewPCG(5, 6))
	var codes [9]int
	for i := range 30000 {
		made := documents{random, []int{0, 2, 10}[i%3]}
		text := made.signed(made.plain())
		if random.IntN(10) == 0 {
			text = mutate(random, text)
		}
		checkRead(t, text)
		_, e := Read(text)
		codes[e]++
	}
	for e, least := range map[api.Errno]int{api.OK: 5000, api.ErrJSON: 500, api.ErrObject: 200, api.ErrDocument: 2500, api.ErrSignature: 250} {
		if codes[e] < least {
			t.Errorf("%d of the texts answer %d, too few to tell: %v", codes[e], e, codes)
		}
	}
}
