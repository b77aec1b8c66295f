package state_test

import (
	"fmt"
	"math/big"
	"slices"
	"strings"
	"testing"

	"turnstile/api"
	"turnstile/state"
)

const (
	m    = 1<<64 - 1
	last = 1 << 62 // the greatest number of a record
	full = 4096    // the most keys
)

// ahead is the order of texts as the document writes it: by their bytes as numbers, the shorter first where one begins the other.
func ahead(a, b string) bool {
	for i := 0; i < len(a) && i < len(b); i++ {
		if a[i] != b[i] {
			return a[i] < b[i]
		}
	}
	return len(a) < len(b)
}

func plainPolicy(p api.Policy) bool {
	isFlow := p.Kind == 1 && p.Gap >= 1 && p.Limit == 0 && p.Span == 0
	isGrid := p.Kind == 2 && p.Span >= 1 && p.Gap == 0 && p.Slack == 0
	return isFlow || isGrid
}

// plainFits is whether v has nothing in what the rule of p doesn't use; of a policy that is none it doesn't.
func plainFits(p api.Policy, v api.Level) bool {
	switch {
	case !plainPolicy(p):
		return false
	case p.Kind == 1:
		return v.Index == 0 && v.Count == 0
	}
	return v.Tat == 0
}

func plainCovers(p api.Policy, c, v api.Level) bool {
	if p.Kind == 1 {
		return v.Tat <= c.Tat
	}
	return v.Index < c.Index || v.Index == c.Index && v.Count <= c.Count
}

func plainKey(key string) bool { return len(key) >= 1 && len(key) <= 64 }

func plainRecord(r api.Record) bool {
	noPolicy, noLevel := r.Policy == api.Policy{}, r.Level == api.Level{}
	isDefine := r.Kind == 1 && plainPolicy(r.Policy) && noLevel
	isDelete := r.Kind == 2 && noPolicy && noLevel
	isCeiling := r.Kind == 3 && noPolicy && (r.Level.Tat == 0 || r.Level.Index == 0 && r.Level.Count == 0)
	return plainKey(r.Key) && (isDefine || isDelete || isCeiling)
}

// plainValid is when a state is valid, as the chapter writes it: it leans on no other layer.
func plainValid(s api.State) bool {
	if s.Lsn > last || len(s.Keys) > full {
		return false
	}
	for i, e := range s.Keys {
		if !plainKey(e.Key) || !plainFits(e.Policy, e.Level) || i > 0 && !ahead(s.Keys[i-1].Key, e.Key) {
			return false
		}
	}
	return true
}

// plainFind counts the keys that come ahead of key.
func plainFind(s api.State, key string) (int, bool) {
	at, there := 0, false
	for _, e := range s.Keys {
		if ahead(e.Key, key) {
			at++
		}
		there = there || e.Key == key
	}
	return at, there
}

func plainEqual(a, b api.State) bool {
	if a.Lsn != b.Lsn || a.Floor != b.Floor || len(a.Keys) != len(b.Keys) {
		return false
	}
	for i, x := range a.Keys {
		y := b.Keys[i]
		if x.Key != y.Key || x.Policy != y.Policy || x.Level != y.Level {
			return false
		}
	}
	return true
}

// plainApply takes a number without bound, and goes through the chapter's errors one by one. It keeps the keys in no order, and puts them in order at the end.
func plainApply(s api.State, lsn *big.Int, r api.Record) (api.State, error) {
	if !plainValid(s) || !plainRecord(r) {
		return api.State{}, api.ErrArg
	}
	if next := plus(s.Lsn, 1); lsn.Cmp(next) != 0 || lsn.Cmp(whole(last)) > 0 {
		return api.State{}, api.ErrGap
	}
	place := slices.IndexFunc(s.Keys, func(e api.Entry) bool { return e.Key == r.Key })
	if r.Kind == 1 && (place >= 0 || len(s.Keys) == full) || r.Kind != 1 && place < 0 {
		return api.State{}, api.ErrLog
	}
	out := api.State{Lsn: lsn.Uint64(), Floor: max(s.Floor, r.Floor)}
	for i, e := range s.Keys {
		switch {
		case i != place:
			out.Keys = append(out.Keys, e)
		case r.Kind == 3 && plainFits(e.Policy, r.Level) && plainCovers(e.Policy, r.Level, e.Level):
			out.Keys = append(out.Keys, api.Entry{Key: e.Key, Policy: e.Policy, Level: r.Level})
		case r.Kind == 3:
			return api.State{}, api.ErrLog
		}
	}
	if r.Kind == 1 {
		out.Keys = append(out.Keys, api.Entry{Key: r.Key, Policy: r.Policy})
	}
	slices.SortFunc(out.Keys, func(a, b api.Entry) int {
		if ahead(a.Key, b.Key) {
			return -1
		}
		return 1
	})
	return out, nil
}

func plainReplay(s api.State, first uint64, records []api.Record) (api.State, error) {
	if !plainValid(s) || first == 0 {
		return api.State{}, api.ErrArg
	}
	for i, r := range records {
		number := plus(first, i)
		if number.Cmp(whole(s.Lsn)) <= 0 {
			continue
		}
		var err error
		if s, err = plainApply(s, number, r); err != nil {
			return api.State{}, err
		}
	}
	return s, nil
}

func whole(x uint64) *big.Int       { return new(big.Int).SetUint64(x) }
func plus(x uint64, y int) *big.Int { return new(big.Int).Add(whole(x), big.NewInt(int64(y))) }

func isNothing(s api.State) bool { return s.Lsn == 0 && s.Floor == 0 && len(s.Keys) == 0 }

func expectValid(t *testing.T, what string, s api.State) {
	t.Helper()
	if have, want := state.Valid(s), plainValid(s); have != want {
		t.Fatalf("P13.1: %s: Valid(%s) is %v, want %v", what, tell(s), have, want)
	}
}

// expectApply holds Apply against the plain reckoning, and what is answered against what stands beside errors and what is valid.
func expectApply(t *testing.T, s api.State, lsn uint64, r api.Record) (api.State, error) {
	t.Helper()
	want, wantErr := plainApply(s, whole(lsn), r)
	have, err := state.Apply(s, lsn, r)
	if err != wantErr || !plainEqual(have, want) {
		t.Fatalf("P13.2: Apply(%s, %d, %s) is %s, %v, want %s, %v", tell(s), lsn, tellRecord(r), tell(have), err, tell(want), wantErr)
	}
	expectAnswer(t, have, err)
	return have, err
}

func expectReplay(t *testing.T, s api.State, first uint64, records []api.Record) (api.State, error) {
	t.Helper()
	want, wantErr := plainReplay(s, first, records)
	have, err := state.Replay(s, first, records)
	if err != wantErr || !plainEqual(have, want) {
		t.Fatalf("P13.2: Replay(%s, %d, %s) is %s, %v, want %s, %v", tell(s), first, tellRecords(records), tell(have), err, tell(want), wantErr)
	}
	expectAnswer(t, have, err)
	return have, err
}

func expectAnswer(t *testing.T, s api.State, err error) {
	t.Helper()
	if err == nil && (!plainValid(s) || !state.Valid(s)) {
		t.Fatalf("P13.2: %s is answered beside nil, and isn't valid", tell(s))
	}
	if err != nil && !isNothing(s) {
		t.Fatalf("P13.2: %s is answered beside %v", tell(s), err)
	}
}

// tell is s in a message, many keys by their number.
func tell(s api.State) string {
	if len(s.Keys) > 12 {
		return fmt.Sprintf("{Lsn %d, Floor %d, %d keys}", s.Lsn, s.Floor, len(s.Keys))
	}
	parts := []string{fmt.Sprintf("Lsn %d, Floor %d", s.Lsn, s.Floor)}
	for _, e := range s.Keys {
		parts = append(parts, fmt.Sprintf("%s %v %v", tellKey(e.Key), e.Policy, e.Level))
	}
	return "{" + strings.Join(parts, "; ") + "}"
}

func tellKey(key string) string {
	if len(key) > 70 {
		return fmt.Sprintf("%d bytes", len(key))
	}
	return fmt.Sprintf("%+q", key)
}

func tellRecord(r api.Record) string {
	return fmt.Sprintf("{Kind %d, Floor %d, %s, %v, %v}", r.Kind, r.Floor, tellKey(r.Key), r.Policy, r.Level)
}

func tellRecords(records []api.Record) string {
	if len(records) > 12 {
		return fmt.Sprint(len(records), " records")
	}
	var parts []string
	for _, r := range records {
		parts = append(parts, tellRecord(r))
	}
	return "[" + strings.Join(parts, ", ") + "]"
}
