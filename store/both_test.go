package store_test

import (
	"encoding/binary"
	"fmt"
	"hash/crc32"
	"maps"
	"math/rand"
	"slices"
	"strings"
	"testing"

	"farebox/api"
	"farebox/block"
	"farebox/store"
	"farebox/wal"
)

// both are a store and a slow one: whatever is done to both, both answer alike.
type both struct {
	t     *testing.T
	hand  *block.Hand
	disk  *block.Disk
	store *store.Store
	slow  *slowStore
}

// opened are both on a new disk.
func opened(t *testing.T, sectors int) *both {
	t.Helper()
	h := block.New(sectors)
	p := &both{t: t, hand: h, disk: h.Disk(), slow: &slowStore{sectors: sectors, now: entries{}}}
	p.again()
	return p
}

// with are both with some entries, each key and value one behind another.
func with(t *testing.T, sectors int, pairs ...string) *both {
	t.Helper()
	p := opened(t, sectors)
	p.does(pairs...)
	return p
}

// again opens the disk once more, without a loss of power.
func (p *both) again() {
	p.t.Helper()
	s, err := store.Open(p.disk)
	if s == nil || err != nil {
		p.t.Fatalf("Open: %v, %v", s, err)
	}
	p.store, p.slow = s, &slowStore{sectors: p.slow.sectors, now: p.slow.now}
	p.alike("Open")
}

// loses is a loss of power; what the disk has then is opened, and is just what the slow store has.
func (p *both) loses(keep []bool) {
	p.t.Helper()
	p.hand.Crash(keep)
	p.again()
}

// does commits a draft with some entries more.
func (p *both) does(pairs ...string) {
	p.t.Helper()
	d := p.begin()
	for i := 0; i < len(pairs); i += 2 {
		d.want(d.put(pairs[i], pairs[i+1]), api.OK)
	}
	p.want(p.commit(d), api.OK)
}

func (p *both) begin() *drafts {
	p.t.Helper()
	d := &drafts{p.t, p.store.Begin(), p.slow.begin()}
	d.alike("Begin")
	return d
}

// commit holds a Commit's answer against the slow one's. Where the disk went down in it, or was down, it may be ErrDown; then all is as ahead of it, and the store is dead. The draft is as it was.
func (p *both) commit(d *drafts) api.Errno {
	p.t.Helper()
	before := *p.slow
	want := p.slow.commit(d.slow)
	down := p.hand.Down()
	err := p.store.Commit(d.draft)
	e := api.Number(err)
	went := p.hand.Down() && !down
	switch {
	case e == api.ErrDown && p.hand.Down() && want == api.OK:
		*p.slow = before
		p.slow.dead = true
	case went || e != want || (err == nil) != (e == api.OK):
		p.t.Fatalf("Commit: %v, not %d; it went down: %v", err, want, went)
	}
	d.alike("Commit")
	p.alike("Commit")
	return e
}

// alike looks at all that can be seen of both.
func (p *both) alike(what string) {
	p.t.Helper()
	if p.store.Batches() != p.slow.batches {
		p.t.Fatalf("behind %s: %d batches, not %d", what, p.store.Batches(), p.slow.batches)
	}
	d := p.begin()
	if len(d.draft.Edits()) != 0 {
		p.t.Fatalf("behind %s: a new draft has a batch", what)
	}
}

// stands holds the store against what the test says: each key and value one behind another.
func (p *both) stands(batches int, pairs ...string) {
	p.t.Helper()
	if p.store.Batches() != batches {
		p.t.Errorf("%d batches, not %d", p.store.Batches(), batches)
	}
	wantStore(p.t, p.store, pairs...)
}

func wantStore(t *testing.T, s *store.Store, pairs ...string) {
	t.Helper()
	want := entries{}
	for i := 0; i < len(pairs); i += 2 {
		want[pairs[i]] = pairs[i+1]
	}
	if d := s.Begin(); !told(d, want) {
		t.Fatalf("%s, Size %d, Len %d; not %s", short(allOf(d)), d.Size(), d.Len(), short(want.within("", "")))
	}
}

// want holds what a call answered against what the test says, beside what the slow store does.
func (p *both) want(e, want api.Errno) {
	p.t.Helper()
	if e != want {
		p.t.Fatalf("%d, not %d", e, want)
	}
}

// drafts are a draft and a slow one.
type drafts struct {
	t     *testing.T
	draft *store.Draft
	slow  *slowDraft
}

func (d *drafts) put(key, value string) api.Errno {
	d.t.Helper()
	want, e := d.slow.put(key, value), d.draft.Put(key, value)
	if e != want {
		d.t.Fatalf("Put of %d, %d bytes: %d, not %d", len(key), len(value), e, want)
	}
	d.gets(key)
	return e
}

func (d *drafts) remove(key string) bool {
	d.t.Helper()
	want, is := d.slow.remove(key), d.draft.Delete(key)
	if is != want {
		d.t.Fatalf("Delete of %.20q: %v", key, is)
	}
	d.gets(key)
	return is
}

// edit does an edit.
func (d *drafts) edit(e api.Edit) {
	d.t.Helper()
	if e.Gone {
		d.remove(e.Key)
	} else {
		d.put(e.Key, e.Value)
	}
}

func (d *drafts) gets(key string) {
	d.t.Helper()
	want, wantIs := d.slow.now[key]
	if value, is := d.draft.Get(key); value != want || is != wantIs {
		d.t.Fatalf("Get of %.20q: %.20q, %v, not %.20q, %v", key, value, is, want, wantIs)
	}
}

func (d *drafts) all(from, to string) {
	d.t.Helper()
	if got, want := goneThrough(d.draft.All(from, to)), d.slow.now.within(from, to); !slices.Equal(got, want) {
		d.t.Fatalf("All(%.20q, %.20q): %s, not %s", from, to, short(got), short(want))
	}
}

func (d *drafts) clone() *drafts { return &drafts{d.t, d.draft.Clone(), d.slow.clone()} }

// alike looks at all that can be seen of both.
func (d *drafts) alike(what string) {
	d.t.Helper()
	if !told(d.draft, d.slow.now) {
		d.t.Fatalf("behind %s: %s, Size %d, Len %d; not %s", what, short(allOf(d.draft)), d.draft.Size(), d.draft.Len(), short(d.slow.now.within("", "")))
	}
	if got, want := d.draft.Edits(), d.slow.now.since(d.slow.was); !slices.Equal(got, want) {
		d.t.Fatalf("behind %s: Edits %s, not %s", what, short(got), short(want))
	}
}

func (d *drafts) want(e, want api.Errno) {
	d.t.Helper()
	if e != want {
		d.t.Fatalf("%d, not %d", e, want)
	}
}

// edits holds the draft's batch against what the test says.
func (d *drafts) edits(want ...api.Edit) {
	d.t.Helper()
	if got := d.draft.Edits(); !slices.Equal(got, want) {
		d.t.Errorf("Edits: %s, not %s", short(got), short(want))
	}
	d.alike("Edits")
}

// told tells whether a draft has just some entries.
func told(d *store.Draft, want entries) bool {
	return d.Len() == len(want) && d.Size() == want.size() && maps.Equal(maps.Collect(d.All("", "")), want) && slices.Equal(allOf(d), want.within("", ""))
}

// allOf and goneThrough are what is gone through: of a whole draft, of an iterator.
func allOf(d *store.Draft) []api.Edit { return goneThrough(d.All("", "")) }

func goneThrough(all func(func(string, string) bool)) []api.Edit {
	var l []api.Edit
	for key, value := range all {
		l = append(l, put(key, value))
	}
	return l
}

func short(l []api.Edit) string {
	s := fmt.Sprint(len(l), " edits:")
	for _, e := range l[:min(len(l), 8)] {
		s += fmt.Sprintf(" %.12q=%d(%.12q) %v", e.Key, len(e.Value), e.Value, e.Gone)
	}
	return s
}

// sized is a text that tells where its bytes stand.
func sized(size int) string {
	b := make([]byte, size)
	for i := range b {
		b[i] = byte(i%251 + 1)
	}
	return string(b)
}

// filling are a key and a value that count so much.
func filling(key string, size int) (string, string) { return key, sized(size - 5 - len(key)) }

// someKey is one of few, so that they meet; some of them stand close to one another.
func someKey(rnd *rand.Rand) string {
	return []string{"a", "b", "c", "a\x00", "a\xff", "ab", "b\x00\x00", "\x00", "\xff", "\xff\xff", "", "k" + strings.Repeat("k", 199), "k" + strings.Repeat("k", 198), strings.Repeat("k", 201)}[rnd.Intn(14)]
}

// someValue has sizes that meet, too.
func someValue(rnd *rand.Rand) string {
	return []string{"", "1", "2", "\x00", sized(rnd.Intn(60)), sized(100)}[rnd.Intn(6)]
}

// someKeep says of so many writes which stay.
func someKeep(rnd *rand.Rand, many int) []bool {
	keep := make([]bool, many)
	for i := range keep {
		keep[i] = rnd.Intn(2) == 0
	}
	return keep
}

// epoch is the greater number of a disk's two heads: it rises whenever a log is written anew.
func epoch(h *block.Hand) uint64 {
	return max(binary.BigEndian.Uint64(h.Sector(0)[4:]), binary.BigEndian.Uint64(h.Sector(1)[4:]))
}

// logged is a disk with a log of just these records.
func logged(t *testing.T, sectors int, records ...[]byte) *block.Hand {
	t.Helper()
	h := block.New(sectors)
	l, _, err := wal.Open(h.Disk())
	if err == nil {
		err = l.Rewrite(records)
	}
	if err != nil {
		t.Fatalf("a log of %d records: %v", len(records), err)
	}
	return h
}

// recordsOn are those of the log on a disk.
func recordsOn(t *testing.T, h *block.Hand) [][]byte {
	t.Helper()
	_, records, err := wal.Open(h.Disk())
	if err != nil {
		t.Fatal(err)
	}
	return records
}

// head is a log's head sector, of the half 0.
func head(g int) []byte {
	b := binary.BigEndian.AppendUint64([]byte("FBWL"), uint64(g))
	b = append(b, 0)
	return binary.LittleEndian.AppendUint32(b, crc32.Checksum(b, crc32.MakeTable(crc32.Castagnoli)))
}

// refused holds that Open answers just an error.
func refused(t *testing.T, d *block.Disk, want api.Errno) {
	t.Helper()
	if s, err := store.Open(d); s != nil || api.Number(err) != want {
		t.Errorf("Open: %v, %v, not %d", s, err, want)
	}
}

// found is the store on a disk.
func found(t *testing.T, h *block.Hand) *store.Store {
	t.Helper()
	s, err := store.Open(h.Disk())
	if s == nil || err != nil {
		t.Fatalf("Open: %v, %v", s, err)
	}
	return s
}
