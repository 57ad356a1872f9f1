package charge_test

import (
	"slices"
	"strconv"
	"strings"
	"testing"

	"farebox/api"
	"farebox/charge"
)

const (
	in, out, bus = api.TapEntry, api.TapExit, api.TapBus
	token        = "abcdefgh"

	maxTime = 1 << 31
	maxFare = 1 << 20

	// lastWeek is the one that has maxTime: its Sunday.
	lastWeek = 213043
)

// ofTheChapter is the tariff of the chapter's examples.
func ofTheChapter() api.Tariff {
	return api.Tariff{
		Stations: []api.Station{{Id: 1, Zone: 1}, {Id: 2, Zone: 2, Group: 7}},
		Spans: []api.Span{
			{From: 1, To: 1, Single: 200, Daily: 500, Weekly: 2000},
			{From: 1, To: 2, Single: 300, Daily: 700, Weekly: 2800},
			{From: 2, To: 2, Single: 150, Daily: 500, Weekly: 2000},
		},
		Peak: []api.Band{{From: 390, To: 570}},
		Off:  0.5, Bus: 175, BusDaily: 400, BusWeekly: 1500, Most: 900, Longest: 120,
	}
}

// ofTheWhole is that of the document's examples of the whole.
func ofTheWhole() api.Tariff {
	f := ofTheChapter()
	f.Stations = []api.Station{{Id: 1, Zone: 1}, {Id: 2, Zone: 2}, {Id: 3, Zone: 1}}
	f.Hopper, f.Delay, f.Threshold = 60, 15, 100
	return f
}

// with is the tariff of the whole, changed.
func with(change func(f *api.Tariff)) api.Tariff {
	f := ofTheWhole()
	change(&f)
	return f
}

// lines are a text's words, line by line; lines end with a comma.
func lines(s string) [][]string {
	var l [][]string
	for _, line := range strings.Split(s, ",") {
		if words := strings.Fields(line); len(words) > 0 {
			l = append(l, words)
		}
	}
	return l
}

func number(s string) int {
	n, err := strconv.Atoi(s)
	if err != nil {
		panic(err)
	}
	return n
}

// minute is the time of three words such as 0 Mon 08:00, reckoned by midnights.
func minute(words []string) int {
	day := slices.Index([]string{"Mon", "Tue", "Wed", "Thu", "Fri", "Sat", "Sun"}, words[1])
	if day < 0 || len(words[2]) != 5 {
		panic(words)
	}
	return 10080*number(words[0]) + 1440*day + 60*number(words[2][:2]) + number(words[2][3:])
}

// taps are those of a text such as "0 Mon 08:00 in 1, 0 Mon 08:30 out 2, 0 Mon 08:40 bus 9".
func taps(s string) []api.Tap {
	kinds := map[string]int{"in": in, "out": out, "bus": bus}
	var l []api.Tap
	for i, w := range lines(s) {
		l = append(l, api.Tap{Device: 1, Counter: 1 + i, Token: token, Kind: kinds[w[3]], Place: number(w[4]), Time: minute(w)})
	}
	return l
}

// outages are those of a text such as "2 from 0 Mon 08:00 to 0 Mon 09:00".
func outages(s string) []api.Outage {
	var l []api.Outage
	for _, w := range lines(s) {
		l = append(l, api.Outage{Station: number(w[0]), From: minute(w[2:5]), To: minute(w[6:9])})
	}
	return l
}

// owed are the bills of a text such as "0 300, 5 1750": a week, and what it comes to.
func owed(s string) []api.Bill {
	var l []api.Bill
	for _, w := range lines(s) {
		l = append(l, api.Bill{Week: number(w[0]), Amount: number(w[1])})
	}
	return l
}

// daily is a text of the same lines on each of some days; the lines begin with the hour.
func daily(week int, days, s string) string {
	var all []string
	for _, day := range strings.Fields(days) {
		for _, w := range lines(s) {
			all = append(all, strconv.Itoa(week)+" "+day+" "+strings.Join(w, " "))
		}
	}
	return strings.Join(all, ", ")
}

const (
	mondayToFriday = "Mon Tue Wed Thu Fri"
	allDays        = mondayToFriday + " Sat Sun"
)

// bills asks what is owed, in weeks and in all, and holds both against the chapter told slowly.
func bills(t *testing.T, f api.Tariff, l []api.Outage, its []api.Tap) ([]api.Bill, api.Errno) {
	t.Helper()
	want, wantE := slowBills(f, l, its)
	got, e := charge.Bills(f, l, its)
	if e != wantE || !slices.Equal(got, want) {
		t.Fatalf("Bills of %s, outages %v: %v, %d, not %v, %d; %v", short(its), l[:min(5, len(l))], got, e, want, wantE, f)
	}
	if n, nE := charge.Charge(f, l, its); nE != wantE || n != slowCharge(want) {
		t.Fatalf("Charge of %s, outages %v: %d, %d, not of %v, %d; %v", short(its), l[:min(5, len(l))], n, nE, want, wantE, f)
	}
	return got, e
}

// billsAre holds the bills of a text's taps against those of another text.
func billsAre(t *testing.T, f api.Tariff, its, want string) {
	t.Helper()
	disturbedAre(t, f, "", its, want)
}

// disturbedAre is the same with outages.
func disturbedAre(t *testing.T, f api.Tariff, l, its, want string) {
	t.Helper()
	areBills(t, f, outages(l), taps(its), owed(want))
}

// areBills holds bills, and what they are together, against what they should be.
func areBills(t *testing.T, f api.Tariff, l []api.Outage, its []api.Tap, want []api.Bill) {
	t.Helper()
	sum := 0
	for _, b := range want {
		sum += b.Amount
	}
	if got, e := bills(t, f, l, its); e != api.OK || !slices.Equal(got, want) {
		t.Errorf("Bills of %s, outages %v: %v, %d, not %v", short(its), l[:min(5, len(l))], got, e, want)
	}
	if n, e := charge.Charge(f, l, its); e != api.OK || n != sum {
		t.Errorf("Charge of %s, outages %v: %d, %d, not %d", short(its), l[:min(5, len(l))], n, e, sum)
	}
}

// fails asks for bills that there are not, and for their charge.
func fails(t *testing.T, f api.Tariff, l []api.Outage, its []api.Tap, want api.Errno) {
	t.Helper()
	if got, e := bills(t, f, l, its); e != want || len(got) != 0 {
		t.Errorf("Bills of %s, outages %v: %v, %d, not %d", short(its), l[:min(5, len(l))], got, e, want)
	}
	if n, e := charge.Charge(f, l, its); e != want || n != 0 {
		t.Errorf("Charge of %s, outages %v: %d, %d, not %d", short(its), l[:min(5, len(l))], n, e, want)
	}
}

// short tells taps, not too many of them.
func short(l []api.Tap) string {
	var s strings.Builder
	for i, x := range l {
		if i == 40 {
			s.WriteString(" and " + strconv.Itoa(len(l)-i) + " more")
			break
		}
		s.WriteString("{" + strconv.Itoa(x.Device) + " " + strconv.Itoa(x.Counter) + " " + strconv.Quote(x.Token) + " " + strconv.Itoa(x.Kind) + " " + strconv.Itoa(x.Place) + " " + strconv.Itoa(x.Time) + "}")
	}
	return s.String()
}
