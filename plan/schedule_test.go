package plan

import (
	"slices"
	"testing"

	"nostro/api"
)

// schedules tells of dues that are others, or of another error than should be, and if arguments aren't what they were.
func schedules(t *testing.T, what string, net [][]int64, deadlines []int, want []Due, err api.Errno) {
	t.Helper()
	heldNet, heldDeadlines := copied(net), slices.Clone(deadlines)
	for range 2 {
		got, gotten := Schedule(net, deadlines)
		if gotten != err || !slices.Equal(got, want) {
			t.Errorf("%s: Schedule(%v, %v) = %v, %d, not %v, %d", what, net, deadlines, got, gotten, want, err)
		}
		for place := range got {
			got[place] = Due{}
		}
	}
	if !alike(net, heldNet) || !slices.Equal(deadlines, heldDeadlines) {
		t.Errorf("%s: Schedule changed %v, %v to %v, %v", what, heldNet, heldDeadlines, net, deadlines)
	}
}

// rising are so many deadlines, 10 ticks from one another, from 0 on.
func rising(count int) []int {
	var l []int
	for place := range count {
		l = append(l, 10*place)
	}
	return l
}

func TestSchedule(t *testing.T) {
	for _, c := range []struct {
		what      string
		net       [][]int64
		deadlines []int
		want      []Due
	}{
		{"the chapter's", [][]int64{{-10}}, []int{5, 9, 12}, []Due{{0, 0, 5, 4}, {0, 0, 9, 3}, {0, 0, 12, 3}}},
		{"one deadline", [][]int64{{-10}}, []int{0}, []Due{{0, 0, 0, 10}}},
		{"fewer units than deadlines", [][]int64{{-2}}, []int{1, 2, 3, 4}, []Due{{0, 0, 1, 1}, {0, 0, 2, 1}}},
		{"one unit", [][]int64{{-1}}, []int{7, 8}, []Due{{0, 0, 7, 1}}},
		{"nothing to pay", [][]int64{{0, 10}, {most}}, []int{7, 8}, nil},
		{"no nets", nil, []int{7, 8}, nil},
		{"nobody's, in any currency", [][]int64{{}, nil, {}}, []int{7, 8}, nil},
		{"of each deadline, of each member, of each currency", [][]int64{{-3, 2, -2}, {2, -4, 5}, {1, 2, -3}}, []int{3, 4},
			[]Due{{0, 0, 3, 2}, {0, 2, 3, 1}, {1, 1, 3, 2}, {2, 2, 3, 2}, {0, 0, 4, 1}, {0, 2, 4, 1}, {1, 1, 4, 2}, {2, 2, 4, 1}}},
		{"rows of several lengths", [][]int64{{-1}, {}, {0, 0, 0, 0, 0, 0, 0, -2}, {5, -1}}, []int{0, 1},
			[]Due{{0, 0, 0, 1}, {2, 7, 0, 1}, {3, 1, 0, 1}, {2, 7, 1, 1}}},
		{"nets that aren't 0 together", [][]int64{{-5}, {-5}}, []int{2}, []Due{{0, 0, 2, 5}, {1, 0, 2, 5}}},
		{"the greatest amount", [][]int64{{-most}}, []int{1, most}, []Due{{0, 0, 1, 1 << 62}, {0, 0, most, 1<<62 - 1}}},
		{"the greatest amount, at once", [][]int64{{most, -most}}, []int{most}, []Due{{0, 1, most, most}}},
	} {
		schedules(t, c.what, c.net, c.deadlines, c.want, api.OK)
	}
}

func TestScheduleOfAsManyAsMayBe(t *testing.T) {
	var net [][]int64
	for range api.MostMembers {
		net = append(net, slices.Repeat([]int64{-33}, api.MostCurrencies))
	}
	var want []Due
	for place, at := range rising(16) {
		for member := range api.MostMembers {
			for cur := range api.MostCurrencies {
				want = append(want, Due{member, cur, at, []int64{3, 2}[min(place, 1)]})
			}
		}
	}
	schedules(t, "all", net, rising(16), want, api.OK)
}

func TestScheduleOfWrongDeadlines(t *testing.T) {
	for _, l := range [][]int{
		nil, {}, rising(17), rising(1000), {-1}, {-1, 2}, {least}, {least, most}, {0, 0}, {1, 1}, {2, 1}, {most, most}, {most, 0}, {most, 5},
		{1, 2, 3, 3}, {1, 2, 2, 3}, {0, 1, -1}, {0, 5, 4, 6}, {3, 2, 1}, {5, least},
	} {
		schedules(t, "ordinary nets", [][]int64{{-10}}, l, nil, api.ErrArg)
		schedules(t, "no nets", nil, l, nil, api.ErrArg)
		// ErrArg comes first, whatever else is wrong.
		schedules(t, "too many", make([][]int64, 17), l, nil, api.ErrArg)
		schedules(t, "too great", [][]int64{{least}}, l, nil, api.ErrArg)
	}
	for _, l := range [][]int{{0}, {most}, {0, 1}, {0, most}, {most - 1, most}, rising(16)} {
		schedules(t, "these may be", [][]int64{{10}}, l, nil, api.OK)
	}
}

func TestScheduleOfTooMany(t *testing.T) {
	row := make([]int64, api.MostCurrencies)
	for _, c := range []struct {
		what string
		net  [][]int64
		err  api.Errno
	}{
		{"16 members", slices.Repeat([][]int64{row}, 16), api.OK},
		{"17 members", slices.Repeat([][]int64{row}, 17), api.ErrMany},
		{"17 members without nets", make([][]int64, 17), api.ErrMany},
		{"very many", make([][]int64, 1000), api.ErrMany},
		{"9 currencies", [][]int64{make([]int64, 9)}, api.ErrMany},
		{"9 currencies of the last one", [][]int64{row, row, make([]int64, 9)}, api.ErrMany},
		{"ahead of what is too great", [][]int64{{least}, make([]int64, 9)}, api.ErrMany},
		{"17, and what is too great", append([][]int64{{least}}, make([][]int64, 16)...), api.ErrMany},
		{"what is too great in the ninth place", [][]int64{append(slices.Clone(row), least)}, api.ErrMany},
	} {
		schedules(t, c.what, c.net, []int{0, 1}, nil, c.err)
	}
}

func TestScheduleOfWhatIsTooGreat(t *testing.T) {
	for _, net := range [][][]int64{{{least}}, {{0, least}}, {{-1, -2}, {3, least}}, {{least, -1}, {-1}}, {{}, nil, {0, 0, 0, 0, 0, 0, 0, least}}} {
		schedules(t, "-2^63", net, []int{0, 1}, nil, api.ErrOver)
		schedules(t, "-2^63, in many parts", net, rising(16), nil, api.ErrOver)
	}
	schedules(t, "one more", [][]int64{{least + 1}}, []int{3}, []Due{{0, 0, 3, most}}, api.OK)
}
