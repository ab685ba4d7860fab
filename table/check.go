package table

import "nostro/api"

// codeLength is how many letters a Code has.
const codeLength = 3

// misspelt tells whether a Code isn't three capital letters, A to Z.
func misspelt(c api.Currency) bool {
	// A letter from A to Z is one byte, so that the bytes can be counted ahead of the letters.
	if len(c.Code) != codeLength {
		return true
	}
	for _, letter := range c.Code {
		if letter < 'A' || letter > 'Z' {
			return true
		}
	}
	return false
}

// twice tells whether two Codes are the same: then the later one isn't the first that is found.
func twice(t []api.Currency) bool {
	for place, currency := range t {
		if first, _ := Find(t, currency.Code); first != place {
			return true
		}
	}
	return false
}

func outOfBounds(c api.Currency) bool {
	return c.Rate < 1 || c.Rate > api.MostRate || c.Haircut < 0 || c.Haircut > api.Basis
}

// isBase tells whether a currency is worth just itself, as the first one must be.
func isBase(c api.Currency) bool {
	return c.Rate == api.Basis && c.Haircut == 0
}
