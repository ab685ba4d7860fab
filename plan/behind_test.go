package plan

import (
	"slices"
	"testing"

	"nostro/api"
)

// behinds tells of dues that are others, or of another error than should be, and if arguments aren't what they were.
func behinds(t *testing.T, what string, due []Due, paid [][]int64, now int, want []Due, err api.Errno) {
	t.Helper()
	heldDue, heldPaid := slices.Clone(due), copied(paid)
	for range 2 {
		got, gotten := Behind(due, paid, now)
		if gotten != err || !slices.Equal(got, want) {
			t.Errorf("%s: Behind(.., %v, %d) = %v, %d, not %v, %d", what, paid, now, got, gotten, want, err)
		}
		for place := range got {
			got[place] = Due{}
		}
	}
	if !slices.Equal(due, heldDue) || !alike(paid, heldPaid) {
		t.Errorf("%s: Behind changed %v, %v to %v, %v", what, heldDue, heldPaid, due, paid)
	}
}

// three are dues of two members, by three ticks, in no order.
func three() []Due {
	return []Due{{1, 0, 9, 5}, {0, 1, 5, 4}, {0, 1, 12, 3}, {0, 0, 9, 7}, {0, 1, 9, 3}}
}

func TestBehindByNow(t *testing.T) {
	for _, c := range []struct {
		now  int
		want []Due
	}{
		{least, nil}, {-1, nil}, {4, nil},
		{5, []Due{{0, 1, 5, 4}}}, {8, []Due{{0, 1, 8, 4}}},
		{9, []Due{{0, 0, 9, 7}, {0, 1, 9, 7}, {1, 0, 9, 5}}}, {11, []Due{{0, 0, 11, 7}, {0, 1, 11, 7}, {1, 0, 11, 5}}},
		{12, []Due{{0, 0, 12, 7}, {0, 1, 12, 10}, {1, 0, 12, 5}}}, {most, []Due{{0, 0, most, 7}, {0, 1, most, 10}, {1, 0, most, 5}}},
	} {
		behinds(t, "nobody paid", three(), nil, c.now, c.want, api.OK)
	}
	early := []Due{{0, 0, least, 1}, {0, 0, -5, 2}, {0, 0, -4, 4}}
	for now, want := range map[int]int64{least: 1, -6: 1, -5: 3, -4: 7, 0: 7} {
		behinds(t, "ticks below 0", early, nil, now, []Due{{0, 0, now, want}}, api.OK)
	}
}

func TestBehindByWhatWasPaid(t *testing.T) {
	for _, c := range []struct {
		what string
		paid [][]int64
		want []Due
	}{
		{"nothing", [][]int64{}, []Due{{0, 0, 10, 7}, {0, 1, 10, 7}, {1, 0, 10, 5}}},
		{"empty lists", [][]int64{{}, nil}, []Due{{0, 0, 10, 7}, {0, 1, 10, 7}, {1, 0, 10, 5}}},
		{"zeros", [][]int64{{0, 0}, {0, 0}}, []Due{{0, 0, 10, 7}, {0, 1, 10, 7}, {1, 0, 10, 5}}},
		{"below 0", [][]int64{{-1, least}, {-100, 5}}, []Due{{0, 0, 10, 7}, {0, 1, 10, 7}, {1, 0, 10, 5}}},
		{"a part", [][]int64{{1, 6}, {4}}, []Due{{0, 0, 10, 6}, {0, 1, 10, 1}, {1, 0, 10, 1}}},
		{"by one member", [][]int64{{7, 7}}, []Due{{1, 0, 10, 5}}},
		{"by the other one", [][]int64{nil, {5}}, []Due{{0, 0, 10, 7}, {0, 1, 10, 7}}},
		{"all", [][]int64{{7, 7}, {5}}, nil},
		{"more than all", [][]int64{{8, most}, {6, 1, 2, 3}, {9}}, nil},
		{"but one", [][]int64{{7, 6}, {5}}, []Due{{0, 1, 10, 1}}},
		{"of another currency", [][]int64{{0, 0, 99}, {0, 99, 99}, {99, 99}}, []Due{{0, 0, 10, 7}, {0, 1, 10, 7}, {1, 0, 10, 5}}},
	} {
		behinds(t, c.what, three(), c.paid, 10, c.want, api.OK)
	}
	behinds(t, "paid, and nothing due", nil, [][]int64{{1, 2}}, 10, nil, api.OK)
}

// Members and currencies of dues may be any from 0 on.
func TestBehindOfFarMembers(t *testing.T) {
	far := []Due{{most, most, 1, 2}, {most, 0, 1, 3}, {0, most, 1, 4}, {17, 9, 1, 5}, {most, most, 1, 6}}
	behinds(t, "far", far, [][]int64{{1}}, 1, []Due{{0, most, 1, 4}, {17, 9, 1, 5}, {most, 0, 1, 3}, {most, most, 1, 8}}, api.OK)
	paid := append(make([][]int64, 17), append(make([]int64, 9), 2))
	behinds(t, "paid far away", far[3:4], paid, 1, []Due{{17, 9, 1, 3}}, api.OK)
}

func TestBehindIsInOrder(t *testing.T) {
	var due, want []Due
	for member := range api.MostMembers {
		for cur := range api.MostCurrencies {
			due = append(due, Due{member, cur, 30 - member, int64(1 + cur)}, Due{member, cur, 30 + member, 100})
			if member > 0 { // what member 0 must pay in is due at 30
				want = append(want, Due{member, cur, 29, int64(1 + cur)})
			}
		}
	}
	behinds(t, "in order", due, nil, 29, want, api.OK)
	slices.Reverse(due)
	behinds(t, "the last one first", due, nil, 29, want, api.OK)
}

func TestBehindOfTooMany(t *testing.T) {
	many := slices.Repeat([]Due{{3, 2, 5, 1}}, 4097)
	behinds(t, "4096", many[:4096], nil, 5, []Due{{3, 2, 5, 4096}}, api.OK)
	behinds(t, "4097", many, nil, 5, nil, api.ErrMany)
	behinds(t, "4097, later", many, nil, 4, nil, api.ErrMany)
	behinds(t, "4097 that may not be", make([]Due, 4097), nil, 5, nil, api.ErrMany)
	behinds(t, "very many", slices.Repeat(many, 10), nil, 5, nil, api.ErrMany)
}

func TestBehindOfWrongDues(t *testing.T) {
	great := Due{0, 0, 1, most}
	for _, wrong := range []Due{
		{}, {-1, 0, 1, 1}, {0, -1, 1, 1}, {least, 0, 1, 1}, {0, least, 1, 1}, {0, 0, 1, 0}, {0, 0, 1, -1}, {0, 0, 1, least}, {-1, -1, -1, -1},
	} {
		behinds(t, "alone", []Due{wrong}, nil, 1, nil, api.ErrArg)
		behinds(t, "the last one", append(three(), wrong), nil, 20, nil, api.ErrArg)
		behinds(t, "the first one", append([]Due{wrong}, three()...), nil, 20, nil, api.ErrArg)
		later := wrong
		later.At = 99
		behinds(t, "later", append(three(), later), nil, 20, nil, api.ErrArg)
		behinds(t, "ahead of what is too much", []Due{great, great, wrong}, nil, 20, nil, api.ErrArg)
	}
	behinds(t, "the least one that may be", []Due{{0, 0, 0, 1}}, nil, 0, []Due{{0, 0, 0, 1}}, api.OK)
}

func TestBehindOfTooMuch(t *testing.T) {
	great, one := Due{1, 2, 3, most}, Due{1, 2, 4, 1}
	behinds(t, "the greatest", []Due{great}, nil, 3, []Due{{1, 2, 3, most}}, api.OK)
	behinds(t, "less what was paid", []Due{great}, [][]int64{nil, {0, 0, most}}, 3, nil, api.OK)
	behinds(t, "less all but one", []Due{great}, [][]int64{nil, {0, 0, most - 1}}, 3, []Due{{1, 2, 3, 1}}, api.OK)
	behinds(t, "2^63", []Due{great, one}, nil, 4, nil, api.ErrOver)
	behinds(t, "2^63, of which much was paid", []Due{great, one}, [][]int64{nil, {0, 0, most}}, 4, nil, api.ErrOver)
	behinds(t, "2^64 - 2", []Due{great, great}, nil, 4, nil, api.ErrOver)
	behinds(t, "so much that it is little again", []Due{great, great, one, one, one}, nil, 4, nil, api.ErrOver)
	behinds(t, "as much as there may be", slices.Repeat([]Due{great}, 4096), nil, 4, nil, api.ErrOver)
	behinds(t, "one comes later", []Due{great, one}, nil, 3, []Due{{1, 2, 3, most}}, api.OK)
	behinds(t, "of another member", []Due{great, {0, 2, 4, 1}}, nil, 4, []Due{{0, 2, 4, 1}, {1, 2, 4, most}}, api.OK)
	behinds(t, "of another currency", []Due{great, {1, 3, 4, 1}}, nil, 4, []Due{{1, 2, 4, most}, {1, 3, 4, 1}}, api.OK)
	behinds(t, "of the first of two", []Due{great, one, {9, 9, 1, 1}}, nil, 4, nil, api.ErrOver)
	behinds(t, "of the last of two", []Due{great, one, {0, 0, 1, 1}}, nil, 4, nil, api.ErrOver)
}
