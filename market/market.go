// Package market: batch auctions of container slots: see DOC.md.
package market

import "market/api"

// Market has accounts, batches and a log.
type Market struct{}

// New makes a market in which nothing is (P7).
func New() *Market { return nil }

// Do takes a command and answers it (P8 to P15).
func (m *Market) Do(command string) (string, api.Errno) { return "", api.OK }

// Last tells the number of a client's last request (P9).
func (m *Market) Last(client int) int { return 0 }

// Show writes accounts, house and batches (P7).
func (m *Market) Show() string { return "" }

// Log writes what was done (P16).
func (m *Market) Log() string { return "" }

// Open makes a market out of a log (P17).
func Open(log string) (*Market, api.Errno) { return nil, api.OK }
