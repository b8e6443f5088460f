package market_test

import (
	"testing"
	"unsafe"

	"market/api"
	"market/market"
)

// someCommands are commands that fill a market: most are done, and some refused.
var someCommands = []string{
	"0 1 pay 1000", "1 1 bring 0 20", "1 2 bring 1 30", "0 2 buy 0 50 5", "1 3 sell 0 40 3", "0 3 draw 751", "2 1 mode 1 m",
	"1 4 sell 1 9 1", "1 5 sell 1 8 1", "0 4 buy 0 1 2", "0 5 drop 0 0", "3 1 drop 0 2", "3 2 pay 9999", "2 2 mode 0 m", "1 6 fetch 1 4",
	"0 6 buy 0 45 2", "2 3 close 0", "1 7 close 1", "0 7 buy 0 9 1", "2 4 close 0", "0 8 sell", "0 10 pay 1", "0 1 pay 1",
}

// TestMarketKeepsNoCommand writes over each command's bytes when it is done: neither what is shown or logged,
// nor the answer to the command when it comes again, may change by that.
func TestMarketKeepsNoCommand(t *testing.T) {
	m, plain := market.New(), newPlainMarket()
	for _, command := range someCommands {
		bytes := []byte(command)
		answer, errno := m.Do(unsafe.String(&bytes[0], len(bytes)))
		wantAnswer, wantErrno := plain.do(command)
		if string(bytes) != command {
			t.Fatalf("Do(%q) wrote into its command: %q", command, bytes)
		}
		for i := range bytes {
			bytes[i] = 'm'
		}
		if answer != wantAnswer || errno != wantErrno {
			t.Fatalf("Do(%q) = %q, %d; want %q, %d", command, answer, errno, wantAnswer, wantErrno)
		}
		checkSame(t, m, plain)
		if again, errnoAgain := m.Do(command); again != wantAnswer || errnoAgain != wantErrno {
			t.Fatalf("Do(%q) again = %q, %d; want %q, %d", command, again, errnoAgain, wantAnswer, wantErrno)
		}
	}
}

// TestMarketsShareNothing fills one market beside another that stays empty, and a third that follows the first.
func TestMarketsShareNothing(t *testing.T) {
	first, second, third := market.New(), market.New(), market.New()
	for _, command := range someCommands {
		answer, errno := first.Do(command)
		checkShow(t, second, emptyMarket)
		checkLog(t, second, "")
		if got := lasts(second); got != [api.Clients]int{} {
			t.Fatalf("behind %q on another market, the last requests are %v", command, got)
		}
		shown := first.Show()
		thirdAnswer, thirdErrno := third.Do(command)
		if thirdAnswer != answer || thirdErrno != errno {
			t.Fatalf("Do(%q) = %q, %d on one market and %q, %d on another", command, answer, errno, thirdAnswer, thirdErrno)
		}
		checkShow(t, first, shown)
		checkShow(t, third, shown)
	}
	checkShow(t, market.New(), emptyMarket)
}

// TestLookingChangesNothing asks a market for all that can be seen of it behind each command, and another one never.
func TestLookingChangesNothing(t *testing.T) {
	watched, alone := market.New(), market.New()
	for _, command := range someCommands {
		for c := -1; c <= api.Clients; c++ {
			watched.Last(c)
		}
		watched.Show()
		if _, errno := market.Open(watched.Log()); errno != api.OK {
			t.Fatalf("Open(%q) is %d", watched.Log(), errno)
		}
		watched.Do("nothing")
		answer, errno := watched.Do(command)
		if want, wantErrno := alone.Do(command); answer != want || errno != wantErrno {
			t.Fatalf("Do(%q) = %q, %d; of a market that nobody looks at %q, %d", command, answer, errno, want, wantErrno)
		}
	}
	checkShow(t, watched, alone.Show())
	checkLog(t, watched, alone.Log())
}
