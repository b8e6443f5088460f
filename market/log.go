package market

import (
	"strconv"

	"market/api"
)

// A frame of the log begins with so many digits, which tell a length of at most maxLength.
const (
	lengthDigits = 2
	maxLength    = 99
)

// Log writes what was done (P16).
func (m *Market) Log() string { return m.log }

// frame writes a command as it stands in the log.
func frame(command string) string {
	length := strconv.Itoa(len(command))
	if len(length) < lengthDigits {
		length = "0" + length
	}
	return length + command
}

// Open makes a market out of a log (P17).
func Open(log string) (*Market, api.Errno) {
	// Ahead of all else, so that not even the longest text takes time.
	if len(log) > api.MaxLog {
		return nil, api.ErrLog
	}
	m := New()
	rest := log
	for len(rest) >= lengthDigits {
		length, isLength := readDigits(rest[:lengthDigits], maxLength)
		if !isLength {
			return nil, api.ErrLog
		}
		behind := rest[lengthDigits:]
		// This frame was cut short: those ahead of it are the log, whatever is left of it.
		if length > len(behind) {
			return m, api.OK
		}
		if !m.redo(behind[:length]) {
			return nil, api.ErrLog
		}
		rest = behind[length:]
	}
	return m, api.OK
}

// redo does a command of a log again, or tells that it cannot be the log's next one.
//
// What it is answered does not matter: refused commands stand in a log too.
func (m *Market) redo(command string) bool {
	r, isCommand := readRequest(command)
	if !isCommand {
		return false
	}
	if r.number != m.replies[r.client].request+1 {
		return false
	}
	m.serve(r, command)
	return true
}
