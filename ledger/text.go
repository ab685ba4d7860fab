package ledger

import "nostro/api"

const (
	headSize   = 2 // how many members and currencies there are, by one byte each
	amountSize = 8
)

// Text tells a ledger as bytes: how many members and currencies there are, the nostros, and the balances.
func (l *Ledger) Text() string {
	members, currencies := l.Size()
	text := append(make([]byte, 0, textSize(members, currencies)), byte(members), byte(currencies))
	text = appendRow(text, l.nostros, currencies)
	for _, balances := range l.balances {
		text = appendRow(text, balances, currencies)
	}
	return string(text)
}

// Read tells the ledger whose Text this is: ErrForm if it is none's, ErrSum if balances aren't together their nostro.
func Read(text string) (*Ledger, api.Errno) {
	if len(text) < headSize {
		return nil, api.ErrForm
	}
	l, err := New(int(text[0]), int(text[1]))
	if err != api.OK || len(text) != textSize(l.Size()) {
		return nil, api.ErrForm
	}
	rest := text[headSize:]
	l.nostros, rest = takeRow(rest, l.currencies)
	for member := range l.balances {
		l.balances[member], rest = takeRow(rest, l.currencies)
	}
	if !l.balanced() {
		return nil, api.ErrSum
	}
	return l, api.OK
}

// balanced tells whether the balances are together the nostros, of each currency.
func (l *Ledger) balanced() bool {
	var amounts columns
	for _, balances := range l.balances {
		for cur, amount := range balances {
			amounts[cur] = append(amounts[cur], amount)
		}
	}
	sums, err := amounts.sums()
	return err == api.OK && sums == l.nostros
}

// textSize is how many bytes a Text of so many members and currencies has.
func textSize(members, currencies int) int {
	return headSize + (1+members)*currencies*amountSize
}

// appendRow lays the first so many amounts of a row behind the text.
func appendRow(text []byte, r row, currencies int) []byte {
	for _, amount := range r[:currencies] {
		for shift := 8 * (amountSize - 1); shift >= 0; shift -= 8 {
			text = append(text, byte(uint64(amount)>>shift))
		}
	}
	return text
}

// takeRow takes as many amounts as there are currencies off the text, and tells what is behind them.
func takeRow(text string, currencies int) (row, string) {
	var r row
	for cur := range currencies {
		r[cur] = takeAmount(text[cur*amountSize : (cur+1)*amountSize])
	}
	return r, text[currencies*amountSize:]
}

func takeAmount(text string) int64 {
	var amount uint64
	for place := range len(text) {
		amount = amount<<8 | uint64(text[place])
	}
	return int64(amount)
}
