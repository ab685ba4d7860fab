package wire

import (
	"encoding/binary"
	"math"
	"reflect"
	"strings"

	"nostro/api"
)

// kinds are the chapter's table, word by word: what the Kinds 1 to 9 use.
var kinds = []string{
	1: "Member, Id, Other, Cur, Cur2, Amount, Amount2",
	2: "Member, Id",
	3: "Member, Cur, Amount",
	4: "Id",
	5: "Cur, Amount",
	6: "Cur, Amount",
	7: "Member",
	8: "Id",
	9: "Member, Cur",
}

var allFields = strings.Split(kinds[1], ", ")

func isKind(kind int) bool { return kind >= 1 && kind <= 9 }

// uses are the names of a Kind's fields.
func uses(kind int) []string { return strings.Split(kinds[kind], ", ") }

func isUsed(kind int, field string) bool {
	for _, one := range uses(kind) {
		if one == field {
			return true
		}
	}
	return false
}

func sizeOfField(field string) int {
	switch field {
	case "Id":
		return 4
	case "Amount", "Amount2":
		return 8
	}
	return 1
}

func sizeOfKind(kind int) int {
	size := 1
	for _, field := range uses(kind) {
		size += sizeOfField(field)
	}
	return size
}

func get(c Command, field string) int64 {
	return reflect.ValueOf(c).FieldByName(field).Int()
}

// with is c, with another number at a field.
func with(c Command, field string, n int64) Command {
	reflect.ValueOf(&c).Elem().FieldByName(field).SetInt(n)
	return c
}

// mayBe tells whether a command may be, by the chapter's words.
func mayBe(c Command) bool {
	if !isKind(c.Kind) {
		return false
	}
	for _, field := range allFields {
		n, most := get(c, field), int64(255)
		switch sizeOfField(field) {
		case 4:
			most = 1<<31 - 1
		case 8:
			most = math.MaxInt64
		}
		if n > most || n < 0 && sizeOfField(field) != 8 || n != 0 && !isUsed(c.Kind, field) {
			return false
		}
	}
	return true
}

// number is the last size bytes of n, the highest first.
func number(n int64, size int) string {
	return string(binary.BigEndian.AppendUint64(nil, uint64(n))[8-size:])
}

// bytesOf tells the bytes of a command that may be.
func bytesOf(c Command) string {
	s := number(int64(c.Kind), 1)
	for _, field := range uses(c.Kind) {
		s += number(get(c, field), sizeOfField(field))
	}
	return s
}

// bytesOfReply tells the bytes of a reply that may be.
func bytesOfReply(r Reply) string {
	s := number(int64(r.E), 1) + number(r.Value, 8) + number(int64(len(r.Ids)), 2)
	for _, id := range r.Ids {
		s += number(int64(id), 4)
	}
	return s
}

// edges are numbers that a field of so many bytes may have: both ends, and those about each byte's.
func edges(size int) []int64 {
	switch size {
	case 1:
		return []int64{0, 1, 2, 127, 128, 254, 255}
	case 4:
		return []int64{0, 1, 2, 127, 128, 255, 256, 257, 65535, 65536, 1<<24 - 1, 1 << 24, 0x01020304, 1<<31 - 2, 1<<31 - 1}
	}
	l := []int64{0, 0x0102030405060708, math.MaxInt64, math.MaxInt64 - 1, math.MinInt64, math.MinInt64 + 1}
	for at := 0; at < 63; at++ {
		n := int64(1) << at
		l = append(l, n, -n, n-1, n+1)
	}
	return l
}

// outside are numbers that a field of so many bytes may not have.
func outside(size int) []int64 {
	switch size {
	case 1:
		return []int64{-1, -2, -255, -256, -257, 256, 257, 511, 512, 65536, 1 << 32, 1<<32 + 1, math.MaxInt64, math.MinInt64}
	case 4:
		return []int64{-1, -2, -256, -1 << 31, -1<<31 - 1, 1 << 31, 1<<31 + 1, 1<<32 - 1, 1 << 32, 1<<32 + 1, 1 << 40, math.MaxInt64, math.MinInt64}
	}
	return nil
}

// plain is a command of that Kind, each field of which has a number of its own.
func plain(kind int) Command {
	c := Command{Kind: kind}
	for at, field := range uses(kind) {
		c = with(c, field, int64(0x11*(at+1)))
	}
	return c
}

// ordinary are commands that may be: of each Kind some, with each field at each of its edges.
func ordinary() []Command {
	var l []Command
	for kind := 1; kind <= 9; kind++ {
		l = append(l, Command{Kind: kind}, plain(kind))
		for _, field := range uses(kind) {
			for _, n := range edges(sizeOfField(field)) {
				l = append(l, with(plain(kind), field, n), with(Command{Kind: kind}, field, n))
			}
		}
	}
	return l
}

// wrong are commands that may not be.
func wrong() []Command {
	var l []Command
	for _, kind := range []int{0, -1, -2, -255, -256, 10, 11, 16, 127, 128, 255, 256, 257, 259, 265, 1 << 32, 1<<32 + 3, math.MaxInt, math.MinInt, math.MinInt + 1} {
		l = append(l, Command{Kind: kind}, Command{Kind: kind, Member: 1}, Command{Kind: kind, Id: 1}, Command{Kind: kind, Member: 1, Cur: 1, Amount: 1})
	}
	for kind := 1; kind <= 9; kind++ {
		for _, field := range allFields {
			for _, n := range outside(sizeOfField(field)) {
				l = append(l, with(plain(kind), field, n), with(Command{Kind: kind}, field, n))
			}
			if isUsed(kind, field) {
				continue
			}
			for _, n := range edges(sizeOfField(field)) {
				if n != 0 {
					l = append(l, with(plain(kind), field, n))
				}
			}
		}
	}
	return l
}

// replies are some that may be.
func replies() []Reply {
	l := []Reply{{}, {E: api.OK, Value: 258}, {Ids: []int{}}, {Ids: []int{0}}, {Ids: []int{7, 7, 3}}, {E: 5, Value: -1, Ids: []int{7, 256}}}
	for e := range 256 {
		l = append(l, Reply{E: api.Errno(e)}, Reply{E: api.Errno(e), Value: -2, Ids: []int{e}})
	}
	for _, n := range edges(8) {
		l = append(l, Reply{Value: n}, Reply{E: 255, Value: n, Ids: []int{1, 2}})
	}
	for _, n := range edges(4) {
		l = append(l, Reply{Ids: []int{int(n)}}, Reply{E: 1, Value: 2, Ids: []int{3, int(n), 4}})
	}
	for count := range api.MostDeals + 1 {
		l = append(l, Reply{Value: 9, Ids: row(count)})
	}
	return l
}

// wrongReplies are some that may not be.
func wrongReplies() []Reply {
	var l []Reply
	for _, n := range outside(1) {
		l = append(l, Reply{E: api.Errno(n)}, Reply{E: api.Errno(n), Value: 1, Ids: []int{1}})
	}
	for _, n := range outside(4) {
		l = append(l, Reply{Ids: []int{int(n)}}, Reply{Ids: []int{1, 2, int(n)}}, Reply{Ids: []int{int(n), 1, 2}})
		last := row(api.MostDeals)
		last[api.MostDeals-1] = int(n)
		l = append(l, Reply{Ids: last})
	}
	for _, count := range []int{201, 202, 255, 256, 400, 65535, 65536, 65537, 65736} {
		l = append(l, Reply{Ids: row(count)}, Reply{Ids: make([]int, count)})
	}
	return l
}

// row is so many Ids, each another one.
func row(count int) []int {
	var l []int
	for at := range count {
		l = append(l, at*7919+1)
	}
	return l
}

// mixed are bytes of all kinds that follow no plain pattern.
func mixed(count int, seed uint64) string {
	b := make([]byte, count)
	state := seed
	for at := range b {
		state = state*6364136223846793005 + 1442695040888963407
		b[at] = byte(state >> 56)
	}
	return string(b)
}
