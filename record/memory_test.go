package record_test

import (
	"fmt"
	"math/rand"
	"slices"
	"testing"

	"farebox/api"
	"farebox/record"
)

// roomy is a list with spare room that is filled by a mark.
func roomy[T any](l []T, mark T) []T { return append(anew(l), mark, mark, mark)[:len(l)] }

// all is a list as far as its memory goes.
func all[T any](l []T) []T { return l[:cap(l)] }

// fill puts a mark everywhere in a list, into its spare room too.
func fill[T any](l []T, mark T) {
	for i := range all(l) {
		all(l)[i] = mark
	}
}

// P8.3: bytes that are handed in are not changed, nor is what stands behind them; they are not kept either.
func TestBytesHandedIn(t *testing.T) {
	rnd := rand.New(rand.NewSource(14))
	for _, k := range kinds() {
		for range 300 {
			x := k.some(rnd)
			b := roomy(k.bytes(x), 77)
			if rnd.Intn(3) == 0 {
				b = roomy(spoilt(rnd, b), 77)
			}
			before := anew(all(b))
			want, wantF := k.slowRead(anew(b))
			got, f := k.read(b)
			if !slices.Equal(all(b), before) {
				t.Fatalf("%s: bytes were changed", k.name)
			}
			fill(b, 200)
			if f != wantF || !isSame(got, want) {
				t.Fatalf("%s: %s, not %s", k.name, short(got), short(want))
			}
		}
	}
}

// P8.3: bytes that are answered are new, each time, and their spare room too.
func TestBytesAnswered(t *testing.T) {
	rnd := rand.New(rand.NewSource(15))
	for _, k := range kinds() {
		for range 300 {
			x := k.some(rnd)
			want := k.bytes(x)
			first, _ := k.write(x)
			other, _ := k.write(x)
			fill(first, 200)
			if !slices.Equal(other, want) {
				t.Fatalf("%s: two answers share memory", k.name)
			}
			k.wantBytes(t, "behind a change", x, want)
			read, _ := k.read(other)
			fill(other, 200)
			if !isSame(read, x) {
				t.Fatalf("%s: what was read shares memory with what was written", k.name)
			}
		}
	}
}

// withRoom is a record whose lists have spare room; seen are these lists as far as their memory goes.
func withRoom(x any) (any, func() string) {
	switch x := x.(type) {
	case api.Delta:
		x.Add, x.Gone = roomy(x.Add, "marked"), roomy(x.Gone, "marked")
		return x, func() string { return fmt.Sprintf("%q %q", all(x.Add), all(x.Gone)) }
	case []api.Outage:
		x = roomy(x, api.Outage{Station: 77})
		return x, func() string { return fmt.Sprint(all(x)) }
	case api.Tariff:
		x.Stations, x.Spans, x.Peak = roomy(x.Stations, api.Station{Id: 77}), roomy(x.Spans, api.Span{From: 77}), roomy(x.Peak, api.Band{From: 77})
		return x, func() string { return fmt.Sprint(all(x.Stations), all(x.Spans), all(x.Peak)) }
	}
	return x, func() string { return "" }
}

// fillLists puts marks everywhere in the lists of a record.
func fillLists(x any) {
	switch x := x.(type) {
	case api.Delta:
		fill(x.Add, "marked")
		fill(x.Gone, "marked")
	case []api.Outage:
		fill(x, api.Outage{Station: 77})
	case api.Tariff:
		fill(x.Stations, api.Station{Id: 77})
		fill(x.Spans, api.Span{From: 77})
		fill(x.Peak, api.Band{From: 77})
	}
}

// P8.3: records that are handed in are not changed, nor is the spare room of their lists; they are not kept either.
func TestRecordsHandedIn(t *testing.T) {
	rnd := rand.New(rand.NewSource(16))
	for _, k := range kinds() {
		for range 300 {
			x := k.some(rnd)
			want := k.bytes(x)
			x, seen := withRoom(x)
			before := seen()
			b, e := k.write(x)
			if seen() != before {
				t.Fatalf("%s: %s was changed", k.name, short(x))
			}
			fillLists(x)
			if e != api.OK || !slices.Equal(b, want) {
				t.Fatalf("%s: written as %s, %d", k.name, short(b), e)
			}
		}
	}
}

// P8.3: likewise such as may not be: tokens are not put in order, numbers not set right.
func TestWrongRecordsHandedIn(t *testing.T) {
	tariff := greatest()
	tariff.Off = 2
	for _, x := range []struct {
		k kind
		x any
	}{
		{deltas(), api.Delta{Version: 1, Add: []string{"bbbbbbbb", "aaaaaaaa", "aaaaaaaa"}, Gone: []string{"c", "aaaaaaaa"}}}, {deltas(), api.Delta{Version: 1, Add: []string{"b"}, Gone: []string{"bbbbbbbb", "aaaaaaaa"}}},
		{outages(), []api.Outage{{Station: 5, From: 6, To: 5}, {Station: 1, From: 1, To: 2}}}, {tariffs(), tariff},
	} {
		given, seen := withRoom(x.x)
		before := seen()
		if b, e := x.k.write(given); e == api.OK || len(b) != 0 || seen() != before {
			t.Errorf("%s: %s, %d; %s", x.k.name, short(b), e, short(given))
		}
	}
}

// P8.3: records that are answered are new, each time.
func TestRecordsAnswered(t *testing.T) {
	rnd := rand.New(rand.NewSource(17))
	for _, k := range kinds() {
		for range 300 {
			x := k.some(rnd)
			b := k.bytes(x)
			first, _ := k.read(b)
			other, _ := k.read(b)
			fillLists(first)
			if !isSame(other, x) {
				t.Fatalf("%s: two answers share memory", k.name)
			}
			k.wantRead(t, "behind a change", b, x, api.Fault{})
		}
	}
}

// P8.3, W6: no two lists of one answer share memory, spare room too.
func TestListsOfOneAnswer(t *testing.T) {
	rnd := rand.New(rand.NewSource(18))
	for range 300 {
		d, p := someDelta(rnd), someTariff(rnd)
		read, _ := record.ReadDelta(deltaBytes(d))
		fill(read.Add, "marked")
		if !slices.Equal(read.Gone, d.Gone) {
			t.Fatal("Add and Gone share memory")
		}
		read, _ = record.ReadDelta(deltaBytes(d))
		fill(read.Gone, "marked")
		if !slices.Equal(read.Add, d.Add) {
			t.Fatal("Gone and Add share memory")
		}
		for _, mark := range []func(q api.Tariff){
			func(q api.Tariff) { fill(q.Stations, api.Station{Id: 77}) }, func(q api.Tariff) { fill(q.Spans, api.Span{From: 77}) }, func(q api.Tariff) { fill(q.Peak, api.Band{From: 77}) },
		} {
			q, _ := record.ReadTariff(tariffBytes(p))
			mark(q)
			same := 0
			for _, is := range []bool{slices.Equal(q.Stations, p.Stations), slices.Equal(q.Spans, p.Spans), len(p.Peak) == 0 || slices.Equal(q.Peak, p.Peak)} {
				if is {
					same++
				}
			}
			if same < 2 {
				t.Fatal("lists of a tariff share memory")
			}
		}
	}
}

// W1, W2: calls at the same time tell what they tell alone.
func TestAtTheSameTime(t *testing.T) {
	rnd := rand.New(rand.NewSource(19))
	done := make(chan string)
	all := kinds()
	for _, k := range all {
		x := k.some(rnd)
		b := k.bytes(x)
		go func() {
			told := ""
			for range 500 {
				got, e := k.write(x)
				read, f := k.read(b)
				if e != api.OK || f != (api.Fault{}) || !slices.Equal(got, b) || !isSame(read, x) {
					told = k.name + ": otherwise"
				}
			}
			done <- told
		}()
	}
	for range all {
		if told := <-done; told != "" {
			t.Error(told)
		}
	}
}
