package market

import "market/api"

// request is a command once it is read (P8). Client, voyage and all the other numbers
// are in their bounds; those that do not belong to the word are 0.
type request struct {
	client, number int
	word           string
	voyage         int
	amount         int // of cash, or of slots
	price, qty     int
	order          int // the number of one in the batch
	mode           mode
}

// readRequest reads a command, or tells that it is none.
func readRequest(command string) (request, bool) {
	// Ahead of all else, so that not even the longest text takes time.
	if len(command) > api.MaxCommand {
		return request{}, false
	}
	f := fields{rest: command, more: true, good: true}
	r := request{}
	r.client = f.number(0, api.Clients-1)
	r.number = f.number(1, api.MaxRequest)
	r.word = f.next()
	f.readRest(&r)
	if !f.good || f.more {
		return request{}, false
	}
	return r, true
}

// readRest reads what belongs to the request's word.
func (f *fields) readRest(r *request) {
	switch r.word {
	case "pay", "draw":
		r.amount = f.number(1, api.MaxCash)
	case "bring", "fetch":
		r.voyage = f.voyage()
		r.amount = f.number(1, api.MaxSlots)
	case "buy", "sell":
		r.voyage = f.voyage()
		r.price = f.number(1, api.MaxPrice)
		r.qty = f.number(1, api.MaxQty)
	case "drop":
		r.voyage = f.voyage()
		r.order = f.number(0, api.MaxOrders-1)
	case "mode":
		r.voyage = f.voyage()
		r.mode = f.mode()
	case "close":
		r.voyage = f.voyage()
	default:
		f.good = false
	}
}

// fields takes a text apart at each blank. It is good until a field is missing or wrong,
// and then no more: so it need be asked only once, at the end.
type fields struct {
	rest string
	more bool // a field begins where rest begins, though it may be empty
	good bool
}

// next takes the next field.
func (f *fields) next() string {
	if !f.more {
		f.good = false
		return ""
	}
	text := f.rest
	for i := 0; i < len(text); i++ {
		if text[i] == ' ' {
			f.rest = text[i+1:]
			return text[:i]
		}
	}
	f.rest = ""
	f.more = false
	return text
}

// number takes the next field, which must be a number from least to most.
func (f *fields) number(least, most int) int {
	text := f.next()
	n, isNumber := readNumber(text, most)
	if !isNumber || n < least {
		f.good = false
		return 0
	}
	return n
}

// voyage takes the next field, which must be the number of a voyage.
func (f *fields) voyage() int {
	return f.number(0, api.Voyages-1)
}

// mode takes the next field, which must be the letter of a mode.
func (f *fields) mode() mode {
	text := f.next()
	switch text {
	case "u":
		return modeU
	case "m":
		return modeM
	}
	f.good = false
	return modeU
}

// readNumber reads a decimal number from 0 to most, without noughts ahead.
func readNumber(text string, most int) (int, bool) {
	if len(text) > 1 && text[0] == '0' {
		return 0, false
	}
	return readDigits(text, most)
}

// readDigits reads a decimal number from 0 to most, with noughts ahead or without.
func readDigits(text string, most int) (int, bool) {
	if text == "" {
		return 0, false
	}
	n := 0
	for i := 0; i < len(text); i++ {
		if text[i] < '0' || text[i] > '9' {
			return 0, false
		}
		n = n*10 + int(text[i]-'0')
		// At each digit, so that n cannot grow out of an int.
		if n > most {
			return 0, false
		}
	}
	return n, true
}
