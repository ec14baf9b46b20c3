package flaw_test

import (
	"fmt"
	"slices"
	"testing"

	"couplant/api"
	"couplant/flaw"
)

// P8.7

func TestMarksAreAlike(t *testing.T) {
	a := mark("a", 0, 10, 0, 20, 5)
	for _, x := range []struct {
		b     api.FlawMark
		slack int
		want  bool
	}{
		{a, 0, true},
		{mark("b", 10, 11, 20, 21, 0), 0, true},
		{mark("b", 2, 3, 4, 5, 1000000000), 0, true},
		{mark("b", 11, 12, 0, 20, 0), 0, false},
		{mark("b", 11, 12, 0, 20, 0), 1, true},
		{mark("b", -12, -11, 0, 20, 0), 11, true},
		{mark("b", -12, -11, 0, 20, 0), 10, false},
		{mark("b", 0, 10, 25, 26, 0), 5, true},
		{mark("b", 0, 10, 25, 26, 0), 4, false},
		{mark("b", 0, 10, -9, -5, 0), 5, true},
		{mark("b", 0, 10, -9, -5, 0), 4, false},
		// Each gap is at most the slack, but not both together.
		{mark("b", 15, 16, 25, 26, 0), 5, true},
		{mark("b", 15, 16, 26, 27, 0), 5, false},
		{mark("b", 100010, 1000000, -1000000, -100000, 0), 100000, true},
		{mark("b", 100011, 1000000, -1000000, -100000, 0), 100000, false},
	} {
		expectAlike(t, fmt.Sprint("Alike of ", x.b, x.slack), must(flaw.Alike(a, x.b, x.slack)), x.want)
		expectAlike(t, fmt.Sprint("Alike of ", x.b, x.slack), must(flaw.Alike(x.b, a, x.slack)), x.want)
	}
	for want, wrong := range wrongMarks() {
		for _, b := range wrongMarks() {
			is, e := flaw.Alike(wrong, b, -1)
			refused(t, "Alike", is, e, want)
		}
		is, e := flaw.Alike(a, wrong, -1)
		refused(t, "Alike", is, e, want)
	}
	for _, slack := range wrongSlacks() {
		is, e := flaw.Alike(a, a, slack)
		refused(t, fmt.Sprint("Alike within ", slack), is, e, api.ErrRange)
	}
}

func TestComparedExample(t *testing.T) {
	pairs, cover, e := flaw.Compared(two(), other(), 2)
	expect(t, "Compared's cover", cover, e, api.FlawCover{Second: []int{0}}, api.OK)
	if len(pairs) != 1 || pairs[0][1] != 0 {
		t.Errorf("Compared: %v", pairs)
	}
	expectAlike(t, "Agreement", must(flaw.Agreement(two(), other(), 2)), frac(1, 2))
	pairs, cover, e = flaw.Compared(other(), two(), 2)
	expect(t, "Compared's cover", cover, e, api.FlawCover{First: []int{0}}, api.OK)
	if len(pairs) != 1 || pairs[0][0] != 0 {
		t.Errorf("Compared: %v", pairs)
	}
	for _, x := range [][2][]api.FlawMark{{}, {two(), nil}, {nil, two()}, {two(), {mark("z", 50, 50, 0, 0, 0)}}} {
		pairs, cover, e := flaw.Compared(x[0], x[1], 2)
		refused(t, "Compared", pairs, e, api.OK)
		refused(t, "Compared's cover", cover, e, api.OK)
	}
}

// A mark that is paired first may have to be paired otherwise later, and so on.
func TestPairsThatMakeRoom(t *testing.T) {
	chain := func(from, count int) []api.FlawMark {
		var l []api.FlawMark
		for n := range count {
			l = append(l, mark("x", from+20*n, from+20*n, 0, 0, 0))
		}
		return numbered(l)
	}
	// More exactly: two lists may have marks of the same name.
	pairs, cover, e := flaw.Compared(chain(0, 20), chain(10, 20), 10)
	expect(t, "pairs", len(pairs), e, 20, api.OK)
	expectAlike(t, "CheckCover", must(flaw.CheckCover([2][]api.FlawMark{chain(0, 20), chain(10, 20)}, 10, cover)), 20)
	// Here all but the last mark of the chain could be paired with the mark that
	// comes first, too.
	a, b := chain(0, 10), chain(10, 10)
	slices.Reverse(a)
	slices.Reverse(b)
	for _, x := range [][2][]api.FlawMark{{a, b}, {b, a}, {a, chain(10, 10)}, {chain(10, 10), a}} {
		pairs, _, e := flaw.Compared(x[0], x[1], 10)
		expect(t, "pairs", len(pairs), e, 10, api.OK)
	}
	// All marks of one list are alike to one of the other list alone.
	all := numbered(slices.Repeat(other(), 20))
	pairs, cover, e = flaw.Compared(all, other(), 0)
	expect(t, "pairs", len(pairs), e, 1, api.OK)
	expectAlike(t, "cover", cover, api.FlawCover{Second: []int{0}})
	pairs, _, e = flaw.Compared(all, all, 0)
	expect(t, "pairs", len(pairs), e, 20, api.OK)
}

// expectCompared expects that Compared returns as many right pairs as there may
// be, ascending, and a cover with as many members, that ascend.
func expectCompared(t *testing.T, a, b []api.FlawMark, slack, most int) {
	t.Helper()
	pairs, cover, e := flaw.Compared(a, b, slack)
	expect(t, fmt.Sprint("pairs of ", a, b, slack), len(pairs), e, most, api.OK)
	for n, p := range pairs {
		if n > 0 && pairs[n-1][0] >= p[0] || !alike(a[p[0]], b[p[1]], slack) {
			t.Errorf("Compared: %v", pairs)
		}
		for _, q := range pairs[:n] {
			if p[1] == q[1] {
				t.Errorf("Compared: %v", pairs)
			}
		}
	}
	expectAlike(t, "members", len(cover.First)+len(cover.Second), most)
	if !slices.IsSorted(cover.First) || !slices.IsSorted(cover.Second) {
		t.Errorf("Compared: %v", cover)
	}
	for n := range a {
		for k := range b {
			if alike(a[n], b[k], slack) && !slices.Contains(cover.First, n) && !slices.Contains(cover.Second, k) {
				t.Errorf("%v covers not %d and %d of %v, %v", cover, n, k, a, b)
			}
		}
	}
	lists := [2][]api.FlawMark{a, b}
	expectAlike(t, "CheckPairs", must(flaw.CheckPairs(lists, slack, pairs)), most)
	expectAlike(t, "CheckCover", must(flaw.CheckCover(lists, slack, cover)), most)
}

func TestComparedIsAsDefined(t *testing.T) {
	var n numbers = 14
	counts := map[int]int{}
	for range 2000 {
		most := []int{4, 8, 20}[n.from(0, 2)]
		a, b := n.marks(n.from(n.from(0, 6), 7), most), n.marks(n.from(n.from(0, 6), 7), most)
		slack := n.from(0, most/4)
		pairs := mostPairs(a, b, slack, 0, 0)
		expectCompared(t, a, b, slack, pairs)
		counts[pairs]++
		share, e := flaw.Agreement(a, b, slack)
		if len(a)+len(b) == 0 {
			refused(t, "Agreement", share, e, api.ErrZero)
		} else {
			expect(t, "Agreement", share, e, lowest(pairs, len(a)+len(b)-pairs), api.OK)
		}
	}
	for pairs := range 6 {
		if counts[pairs] < 50 {
			t.Error(counts)
		}
	}
}

func TestCheckPairs(t *testing.T) {
	lists := [2][]api.FlawMark{append(two(), mark("d", 90, 90, 0, 0, 0)), append(other(), mark("e", 91, 91, 0, 0, 0))}
	for _, x := range []struct {
		numbers []int
		want    int
		e       api.Errno
	}{
		{nil, 0, api.OK},
		{[]int{1, 0}, 1, api.OK},
		{[]int{0, 0}, 1, api.OK},
		{[]int{2, 1, 0, 0}, 2, api.OK},
		{[]int{0, 0, 2, 1}, 2, api.OK},
		{[]int{3, 0}, 0, api.ErrMissing},
		{[]int{0, 2}, 0, api.ErrMissing},
		{[]int{-1, 0}, 0, api.ErrMissing},
		{[]int{0, -1}, 0, api.ErrMissing},
		{[]int{huge, -huge - 1}, 0, api.ErrMissing},
		{[]int{2, 1, 0, 2}, 0, api.ErrMissing},
		{[]int{2, 1, 2, 2}, 0, api.ErrMissing},
		{[]int{0, 0, 1, 0}, 0, api.ErrDouble},
		{[]int{2, 1, 2, 0}, 0, api.ErrDouble},
		{[]int{2, 1, 2, 1}, 0, api.ErrDouble},
		{[]int{2, 1, 0, 0, 2, 0}, 0, api.ErrDouble},
		{[]int{0, 0, 2, 0, 9, 9}, 0, api.ErrDouble},
		{[]int{0, 1}, 0, api.ErrProof},
		{[]int{2, 0}, 0, api.ErrProof},
		{[]int{0, 0, 1, 1, 9, 9}, 0, api.ErrProof},
		{[]int{0, 1, 0, 0}, 0, api.ErrProof},
	} {
		n, e := flaw.CheckPairs(lists, 2, cells(x.numbers...))
		expect(t, fmt.Sprint("CheckPairs of ", x.numbers), n, e, x.want, x.e)
	}
	n, e := flaw.CheckPairs(lists, 1, cells(0, 0))
	refused(t, "CheckPairs", n, e, api.ErrProof)
	n, e = flaw.CheckPairs(lists, 100000, make([][2]int, 100000))
	refused(t, "CheckPairs of many", n, e, api.ErrDouble)
	n, e = flaw.CheckPairs([2][]api.FlawMark{}, 0, make([][2]int, 1))
	refused(t, "CheckPairs of no marks", n, e, api.ErrMissing)
}

func TestCheckCover(t *testing.T) {
	lists := [2][]api.FlawMark{append(two(), mark("d", 90, 90, 0, 0, 0)), append(other(), mark("e", 91, 91, 0, 0, 0))}
	for _, x := range []struct {
		first, second []int
		want          int
		e             api.Errno
	}{
		{nil, []int{0, 1}, 2, api.OK},
		{[]int{2}, []int{0}, 2, api.OK},
		{[]int{0, 1}, []int{1}, 3, api.OK},
		{[]int{0, 1, 2}, nil, 3, api.OK},
		{[]int{0, 1, 2}, []int{0, 1}, 5, api.OK},
		{[]int{3}, nil, 0, api.ErrMissing},
		{[]int{0, -1}, nil, 0, api.ErrMissing},
		{nil, []int{2}, 0, api.ErrMissing},
		{nil, []int{0, 1, huge}, 0, api.ErrMissing},
		{nil, []int{-huge - 1}, 0, api.ErrMissing},
		{[]int{1, 1}, nil, 0, api.ErrOrder},
		{[]int{2, 1}, nil, 0, api.ErrOrder},
		{nil, []int{1, 0}, 0, api.ErrOrder},
		{nil, []int{0, 0}, 0, api.ErrOrder},
		{[]int{1, 0, 3}, []int{2}, 0, api.ErrOrder},
		{[]int{3, 2}, []int{1, 0}, 0, api.ErrMissing},
		{[]int{1, 0}, []int{5}, 0, api.ErrOrder},
		{nil, []int{0, 0, 5}, 0, api.ErrOrder},
		{nil, nil, 0, api.ErrProof},
		{[]int{0}, nil, 0, api.ErrProof},
		{[]int{0, 1}, nil, 0, api.ErrProof},
		{[]int{1, 2}, nil, 0, api.ErrProof},
		{[]int{0, 2}, []int{1}, 0, api.ErrProof},
		{nil, []int{0}, 0, api.ErrProof},
		{[]int{0, 1}, []int{0}, 0, api.ErrProof},
	} {
		n, e := flaw.CheckCover(lists, 2, api.FlawCover{First: x.first, Second: x.second})
		expect(t, fmt.Sprint("CheckCover of ", x.first, x.second), n, e, x.want, x.e)
	}
	expectAlike(t, "CheckCover of what is not alike", must(flaw.CheckCover(lists, 0, api.FlawCover{})), 0)
	expectAlike(t, "CheckCover of no marks", must(flaw.CheckCover([2][]api.FlawMark{}, 0, api.FlawCover{})), 0)
}

func TestCoversAreAsDefined(t *testing.T) {
	var n numbers = 15
	counts := map[api.Errno]int{}
	for range 2000 {
		a, b := n.marks(n.from(1, 4), 8), n.marks(n.from(1, 4), 8)
		slack := n.from(0, 5)
		var c api.FlawCover
		for k := range a {
			if n.isOnce(2) {
				c.First = append(c.First, k)
			}
		}
		for k := range b {
			if n.isOnce(2) {
				c.Second = append(c.Second, k)
			}
		}
		want := api.OK
		for k := range a {
			for j := range b {
				if alike(a[k], b[j], slack) && !slices.Contains(c.First, k) && !slices.Contains(c.Second, j) {
					want = api.ErrProof
				}
			}
		}
		members := len(c.First) + len(c.Second)
		if want != api.OK {
			members = 0
		}
		got, e := flaw.CheckCover([2][]api.FlawMark{a, b}, slack, c)
		expect(t, fmt.Sprint("CheckCover of ", a, b, slack, c), got, e, members, want)
		counts[e]++
	}
	if counts[api.OK] < 500 || counts[api.ErrProof] < 500 {
		t.Error(counts)
	}
}

func TestAgreements(t *testing.T) {
	for _, x := range []struct {
		a, b []api.FlawMark
		want api.Frac
	}{
		{two(), other(), frac(1, 2)}, {other(), two(), frac(1, 2)}, {two(), nil, frac(0)}, {nil, other(), frac(0)}, {two(), two(), frac(1)},
		{two(), two()[:1], frac(1, 2)}, {three(), append(other(), mark("z", 999, 999, 0, 0, 0)), frac(1, 4)},
	} {
		expectAlike(t, fmt.Sprint("Agreement of ", x.a, x.b), must(flaw.Agreement(x.a, x.b, 2)), x.want)
	}
	f, e := flaw.Agreement(nil, []api.FlawMark{}, 0)
	refused(t, "Agreement of no marks", f, e, api.ErrZero)
}

// The errors of both lists come first, and then those of the slack.
func TestErrorsOfLists(t *testing.T) {
	refuse := func(a, b []api.FlawMark, slack int, want api.Errno) {
		t.Helper()
		pairs, cover, e := flaw.Compared(a, b, slack)
		refused(t, "Compared", pairs, e, want)
		refused(t, "Compared's cover", cover, e, want)
		n, e := flaw.CheckPairs([2][]api.FlawMark{a, b}, slack, cells(-1, -1))
		refused(t, "CheckPairs", n, e, want)
		n, e = flaw.CheckCover([2][]api.FlawMark{a, b}, slack, api.FlawCover{First: []int{-1}})
		refused(t, "CheckCover", n, e, want)
		f, e := flaw.Agreement(a, b, slack)
		refused(t, "Agreement", f, e, want)
	}
	for want, wrong := range wrongLists() {
		for _, b := range wrongLists() {
			refuse(wrong, b, -1, want)
		}
		refuse(nil, wrong, -1, want)
	}
	for _, slack := range wrongSlacks() {
		refuse(two(), other(), slack, api.ErrRange)
		refuse(nil, nil, slack, api.ErrRange)
	}
}

// P8.12

func TestListsExchanged(t *testing.T) {
	var n numbers = 16
	paired := 0
	for range 500 {
		most := []int{20, 50, 100}[n.from(0, 2)]
		a, b := n.marks(n.from(0, 20), most), n.marks(n.from(0, 20), most)
		slack := n.from(0, most/10)
		pairs, _, e := flaw.Compared(a, b, slack)
		expect(t, "Compared", 0, e, 0, api.OK)
		// Right pairs with a cover of as many members: there are no more.
		expectCompared(t, a, b, slack, len(pairs))
		expectCompared(t, b, a, slack, len(pairs))
		if len(pairs) > 0 && len(pairs) < min(len(a), len(b)) {
			paired++
		}
	}
	if paired < 100 {
		t.Errorf("only in %d some marks have no mate", paired)
	}
}
