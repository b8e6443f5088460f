package market_test

import (
	"fmt"
	"regexp"
	"strconv"
	"strings"
	"testing"
	"unsafe"

	"market/api"
	"market/market"
)

var twoDigits = regexp.MustCompile(`^[0-9][0-9]`)

// plainOpen is a second reading of P17. It gives nil, if the text is no log.
func plainOpen(log string) *plainMarket {
	p := newPlainMarket()
	if len(log) > api.MaxLog {
		return nil
	}
	for len(log) >= 2 {
		if !twoDigits.MatchString(log) {
			return nil
		}
		n, _ := strconv.Atoi(log[:2])
		if n > len(log)-2 {
			break
		}
		command := log[2 : 2+n]
		if n > api.MaxCommand || !commandForm.MatchString(command) {
			return nil
		}
		var client, number int
		fmt.Sscan(command, &client, &number)
		if number != p.last[client]+1 {
			return nil
		}
		p.do(command)
		log = log[2+n:]
	}
	return p
}

// checkOpen wants the text opened as the second reading has it, and gives the market, or nil if it is no log.
func checkOpen(t *testing.T, log string) *market.Market {
	t.Helper()
	m, errno := market.Open(log)
	plain := plainOpen(log)
	if plain == nil {
		if m != nil || errno != api.ErrLog {
			t.Fatalf("Open(%.90q) = %v, %d; want no market, and ErrLog", log, m, errno)
		}
		return nil
	}
	if m == nil || errno != api.OK {
		t.Fatalf("Open(%.90q) = %v, %d; want a market", log, m, errno)
	}
	checkSame(t, m, plain)
	return m
}

// opened opens what must be a log.
func opened(t *testing.T, log string) *market.Market {
	t.Helper()
	m := checkOpen(t, log)
	if m == nil {
		t.Fatalf("Open(%.90q) is ErrLog", log)
	}
	return m
}

// framed is the log of the commands, if each is a next request.
func framed(commands ...string) string {
	log := ""
	for _, command := range commands {
		log += fmt.Sprintf("%02d%s", len(command), command)
	}
	return log
}

// someLog is the log of a market in which much was done, and some refused.
func someLog() string {
	m := market.New()
	for _, command := range someCommands {
		m.Do(command)
	}
	return m.Log()
}

func TestLogHasEachLastRequestInItsOrder(t *testing.T) {
	m := market.New()
	play(t, m, []step{
		{"3 1 pay 1", "", api.OK},
		{"0 1 bring 1 100", "", api.OK},
		{"3 2 sell 0 99 20", "", api.ErrFunds},
		{"3 2 sell 0 99 20", "", api.ErrFunds},
		{"0 2 sell 1 10 10", "0", api.OK},
		{"3 1 pay 1", "", api.ErrOld},
		{"1 2 pay 1", "", api.ErrGap},
		{"1 1 pay 01", "", api.ErrForm},
		{"3 2 pay 7", "", api.ErrFunds},
		{"1 1 mode 1 m", "", api.ErrBusy},
		{"0 3 drop 1 0", "", api.OK},
		{"0 4 close 1", "0", api.OK},
		{"1 2 mode 1 m", "", api.OK},
		{"0 5 sell 1 10 2", "", api.ErrMode},
		{"0 6 drop 1 11", "", api.ErrOrder},
		{"2 1 pay 9999", "", api.ErrMax},
	})
	checkLog(t, m, "093 1 pay 1"+"150 1 bring 1 100"+"163 2 sell 0 99 20"+"160 2 sell 1 10 10"+"121 1 mode 1 m"+"120 3 drop 1 0"+
		"110 4 close 1"+"121 2 mode 1 m"+"150 5 sell 1 10 2"+"130 6 drop 1 11"+"122 1 pay 9999")
	opened(t, m.Log())
}

// TestLogWritesEachLength has commands of all lengths that there are: 9 to 17 bytes.
func TestLogWritesEachLength(t *testing.T) {
	tasks := []string{"pay 1", "pay 10", "pay 100", "pay 1000", "draw 1000", "buy 1 10 2", "buy 1 10 20", "sell 1 10 20"}
	seen := map[int]bool{}
	m, want := market.New(), ""
	for r := 1; r <= api.MaxRequest; r++ {
		command := fmt.Sprint("2 ", r, " ", tasks[r%len(tasks)])
		seen[len(command)] = true
		m.Do(command)
		want += framed(command)
		checkLog(t, m, want)
	}
	for n := 9; n <= 17; n++ {
		if !seen[n] {
			t.Errorf("no command has %d bytes", n)
		}
	}
	opened(t, want)
}

// TestLongestLog has as many and as long commands as there can be, and behind them as much of a cut frame.
func TestLongestLog(t *testing.T) {
	m := market.New()
	for r := 1; r <= api.MaxRequest; r++ {
		for c := range api.Clients {
			m.Do(fmt.Sprint(c, " ", r, " sell 1 99 20"))
		}
	}
	log := m.Log()
	if want := 4 * (9*18 + 90*19); len(log) != want {
		t.Fatalf("the longest log has %d bytes; want %d", len(log), want)
	}
	opened(t, log)
	checkLog(t, opened(t, log+"99"+strings.Repeat("x", 98)), log)
	for _, command := range []string{"0 99 pay 1", "0 100 pay 1", "0 1 pay 1"} {
		if m := checkOpen(t, log+framed(command)); m != nil {
			t.Errorf("behind the longest log, %q is taken", command)
		}
	}
}

func TestOpenedMarketGoesOnAsTheFirst(t *testing.T) {
	log := framed("0 1 pay 50", "1 1 bring 0 2", "0 2 buy 0 20 2", "1 2 sell 0 10 1", "2 1 close 0", "3 1 draw 5", "1 3 mode 1 m", "1 4 sell 0 9 1")
	m := opened(t, log)
	checkShow(t, m, "40+0 1+0 0+0;10+0 0+1 0+0;"+emptyAccount+";"+emptyAccount+";0;u0S1@9x1;m")
	play(t, m, []step{
		{"2 1 close 0", "1@10/10", api.OK},
		{"2 1 pay 7", "1@10/10", api.OK},
		{"3 1 draw 5", "", api.ErrFunds},
		{"3 1 pay 5", "", api.ErrFunds},
		{"1 4 sell 0 9 1", "0", api.OK},
		{"0 1 pay 50", "", api.ErrOld},
		{"0 4 pay 50", "", api.ErrGap},
		{"0 3", "", api.ErrForm},
	})
	checkLog(t, m, log)
	play(t, m, []step{
		{"0 3 buy 0 9 1", "1", api.OK},
		{"2 2 close 0", "1@9/9", api.OK},
		{"0 4 buy 1 9 2", "", api.ErrMode},
	})
	checkLog(t, m, log+"130 3 buy 0 9 1"+"112 2 close 0"+"130 4 buy 1 9 2")
	checkShow(t, m, "31+0 2+0 0+0;19+0 0+0 0+0;"+emptyAccount+";"+emptyAccount+";0;u;m")
	again := opened(t, m.Log())
	checkShow(t, again, m.Show())
}

func TestOpenOfNothingIsANewMarket(t *testing.T) {
	for _, log := range []string{"", "0", "9", "x", " ", "\x00", "\xff", "01", "09", "99", "10" + "0 1 pay 1", "20" + "nothing", "99" + strings.Repeat("x", 98)} {
		m := opened(t, log)
		checkShow(t, m, emptyMarket)
		checkLog(t, m, "")
		play(t, m, []step{{"0 2 pay 1", "", api.ErrGap}, {"0 1 pay 1", "", api.OK}})
	}
}

// TestOpenLeavesOutWhatWasCutShort cuts a log behind each of its bytes. The lost commands can be done again.
func TestOpenLeavesOutWhatWasCutShort(t *testing.T) {
	log := someLog()
	whole := opened(t, log)
	for i := range len(log) {
		m := opened(t, log[:i])
		kept := m.Log()
		if len(kept) > i || i-len(kept) >= 2+api.MaxCommand || log[:len(kept)] != kept {
			t.Fatalf("of %q the log is %q", log[:i], kept)
		}
		for _, command := range someCommands {
			m.Do(command)
		}
		checkShow(t, m, whole.Show())
		checkLog(t, m, log)
	}
}

// TestOpenLeavesOutAnyCutFrame lays many rests behind a log that tell more bytes than they have.
func TestOpenLeavesOutAnyCutFrame(t *testing.T) {
	log := framed("0 1 pay 100", "1 1 draw 3")
	for n := 1; n <= 99; n++ {
		for _, rest := range []string{"", "x", "0 2 pay 1", "0 9 pay 1", "0 2 pay 01", strings.Repeat("0", n-1), strings.Repeat("\xff", n-1), strings.Repeat("0 2 pay 1", 11)[:n-1]} {
			if len(rest) >= n {
				continue
			}
			m := opened(t, fmt.Sprintf("%s%02d%s", log, n, rest))
			checkLog(t, m, log)
			checkShow(t, m, "100+0 0+0 0+0;"+emptyAccount+";"+emptyAccount+";"+emptyAccount+";0;u;u")
		}
	}
}

// checkNoLog wants the text refused, whatever stands behind it.
func checkNoLog(t *testing.T, text string) {
	t.Helper()
	for _, rest := range []string{"", "x", "xx", "99", "090 3 pay 1"} {
		if m := checkOpen(t, text+rest); m != nil {
			t.Errorf("Open(%.90q) gives a market", text+rest)
		}
	}
}

func TestOpenRefusesFramesWithoutTwoDigits(t *testing.T) {
	good := framed("0 1 pay 100", "1 1 bring 0 20", "0 2 buy 0 5 2")
	for _, head := range []string{"xx", "0x", "x0", "  ", " 9", "9 ", "-1", "+9", ".9", "0.", "/0", "0/", ":0", "0:", "\x00\x00", "\xff\xff", "９", "٠٩", "0\xb9"} {
		checkNoLog(t, head)
		checkNoLog(t, head+"0 1 pay 1")
		checkNoLog(t, good+head)
		checkNoLog(t, good+head+"0 3 pay 1")
	}
	for _, text := range []string{"009" + "0 3 pay 1", "0 3 pay 1", "0x9" + "0 3 pay 1", " 09" + "0 3 pay 1"} {
		checkNoLog(t, good+text)
	}
}

func TestOpenRefusesFramesThatAreNoCommand(t *testing.T) {
	good := framed("0 1 pay 100", "1 1 bring 0 20", "0 2 buy 0 5 2")
	for _, text := range []string{
		"", "x", "abc", "nothing", "0 3 pay", "0 3 pay ", "0 3 pay 0", "0 3 pay 01", "0 3 pay 1 ", " 0 3 pay 1", "0 3 pay 1\n", "0  3 pay 1", "0 3 pay 10000",
		"0 03 pay 1", "0 0 pay 1", "0 100 pay 1", "4 1 pay 1", "-1 1 pay 1", "0 3 buy 1", "0 3 buy 1 1 21", "0 3 close 2", "0 3 mode 0 x", "0 3 drop 0 12", "0 3 log",
		"0 3 pay 000000000001", "0 3 pay 0000000000001", "0 3 pay 1" + strings.Repeat(" ", 11), "0 3 pay 1" + strings.Repeat(" ", 12),
		"0 3 pay 1" + "090 4 pay 1", strings.Repeat("0", 99), strings.Repeat("\x00", 20), strings.Repeat("\xff", 21),
	} {
		checkNoLog(t, framed(text))
		checkNoLog(t, good+framed(text))
	}
	// A length that is too small by one, or too great, takes other bytes for the command.
	checkNoLog(t, good+"080 3 pay 1")
	checkNoLog(t, good+"100 3 pay 1 ")
}

func TestOpenRefusesCommandsThatAreNotTheNextRequest(t *testing.T) {
	good := framed("0 1 pay 100", "1 1 bring 0 20", "0 2 buy 0 5 2", "2 1 draw 9")
	for _, command := range []string{
		"0 2 buy 0 5 2", "0 2 pay 1", "0 1 pay 100", "0 4 pay 1", "0 9 pay 1", "0 99 pay 1", "1 1 bring 0 20", "1 1 pay 1", "1 3 pay 1", "2 1 draw 9", "2 3 draw 9", "3 2 pay 1", "3 99 close 0",
	} {
		checkNoLog(t, good+framed(command))
	}
	checkNoLog(t, framed("0 2 pay 1"))
	checkNoLog(t, framed("0 1 pay 1", "0 1 pay 1"))
	checkNoLog(t, framed("0 1 draw 1", "0 1 draw 1"))
	checkNoLog(t, framed("0 1 pay 1", "0 3 pay 1"))
	checkNoLog(t, framed("0 1 pay 1", "1 2 pay 1"))
	for _, command := range []string{"0 3 pay 1", "0 3 draw 9999", "1 2 drop 0 11", "2 2 draw 9", "3 1 mode 0 m"} {
		checkLog(t, opened(t, good+framed(command)), good+framed(command))
	}
}

func TestOpenRefusesTextsThatAreTooLong(t *testing.T) {
	good := framed("0 1 pay 100")
	for _, n := range []int{api.MaxLog - 1, api.MaxLog, api.MaxLog + 1, 1 << 24} {
		for _, text := range []string{"0", "9", "x", " ", "\x00", "\xff", "10", good} {
			long := strings.Repeat(text, n/len(text)+1)[:n]
			if m := checkOpen(t, long); m != nil {
				t.Errorf("Open(%.20q...) of %d bytes gives a market", long, n)
			}
		}
	}
}

// TestLogsWithOneByteWrong takes out, lays in and changes each byte of a log.
func TestLogsWithOneByteWrong(t *testing.T) {
	log := framed("0 1 pay 100", "1 1 bring 0 20", "0 2 buy 0 5 2", "1 2 sell 0 4 3", "2 1 draw 9", "0 3 close 0", "1 3 mode 1 m")
	taken, refused := 0, 0
	try := func(text string) {
		if checkOpen(t, text) == nil {
			refused++
		} else {
			taken++
		}
	}
	for i := range len(log) {
		try(log[:i] + log[i+1:])
		try(log[i:])
		for b := range 256 {
			try(log[:i] + string([]byte{byte(b)}) + log[i:])
			try(log[:i] + string([]byte{byte(b)}) + log[i+1:])
		}
	}
	if taken < 100 || refused < 100 {
		t.Errorf("%d taken and %d refused: too few to tell", taken, refused)
	}
}

// TestLogsOfManyKinds tries frames, and pieces of frames, in no order.
func TestLogsOfManyKinds(t *testing.T) {
	numbers := fixedNumbers{3}
	pieces := []string{"0", "1", "9", "00", "09", "10", "99", " ", "x", "0 1 pay 1", "1 1 close 0", "\x00", "\xff"}
	taken, refused := 0, 0
	for range 100000 {
		text, last := "", map[int]int{}
		for range numbers.next(12) {
			if numbers.next(10) == 0 {
				text += pieces[numbers.next(len(pieces))]
				continue
			}
			client := numbers.next(api.Clients)
			last[client]++
			if numbers.next(40) == 0 {
				last[client] += numbers.next(4) - 2
			}
			text += framed(fmt.Sprintf("%d %d %s", client, last[client], someTask(&numbers, numbers.next(api.Voyages))))
		}
		if checkOpen(t, text) == nil {
			refused++
		} else {
			taken++
		}
	}
	if taken < 10000 || refused < 10000 {
		t.Errorf("%d taken and %d refused: too few to tell", taken, refused)
	}
}

// TestOpenedMarketsAgreeWithAPlainSecondReading goes on, now and then, with a market opened from the log.
func TestOpenedMarketsAgreeWithAPlainSecondReading(t *testing.T) {
	numbers := fixedNumbers{4}
	seen := map[string]int{}
	for round := range 100 {
		m, plain := market.New(), newPlainMarket()
		if round%2 == 1 {
			for _, command := range wealth() {
				checkDo(t, m, plain, command)
			}
		}
		for range 300 {
			if numbers.next(20) == 0 {
				m = opened(t, m.Log())
			}
			seen[checkDo(t, m, plain, someCommand(&numbers, plain.last, 10))]++
		}
	}
	checkSeen(t, seen, []string{"trade at one price", "error 0", "error 3", "error 4", "error 5", "error 7", "error 8", "error 9", "error 10"})
}

// TestOpenKeepsNoLog writes over the log's bytes when it is opened: nothing of the market may change by that.
func TestOpenKeepsNoLog(t *testing.T) {
	log := someLog()
	bytes := []byte(log)
	m, errno := market.Open(unsafe.String(&bytes[0], len(bytes)))
	if errno != api.OK || string(bytes) != log {
		t.Fatalf("Open(%q) is %d, and the log is %q", log, errno, bytes)
	}
	for i := range bytes {
		bytes[i] = 'm'
	}
	plain := plainOpen(log)
	checkSame(t, m, plain)
	for c := range api.Clients {
		checkDo(t, m, plain, fmt.Sprint(c, " ", plain.last[c], " close 0"))
	}
}

// TestLogThatWasHandedOutStays goes on with a market behind its Log.
func TestLogThatWasHandedOutStays(t *testing.T) {
	m := market.New()
	var logs []string
	for _, command := range someCommands {
		m.Do(command)
		logs = append(logs, m.Log())
	}
	again := market.New()
	for i, command := range someCommands {
		again.Do(command)
		checkLog(t, again, logs[i])
	}
}

// TestOpenedMarketsShareNothing opens one log twice, and goes on with one of the two.
func TestOpenedMarketsShareNothing(t *testing.T) {
	log := framed("0 1 pay 100", "0 2 buy 0 5 2", "1 1 bring 0 9", "1 2 sell 0 5 2")
	first, second := opened(t, log), opened(t, log)
	shown := second.Show()
	play(t, first, []step{
		{"0 3 buy 0 5 3", "2", api.OK},
		{"1 3 drop 0 1", "", api.OK},
		{"1 4 sell 0 4 4", "3", api.OK},
		{"2 1 close 0", "4@4/4", api.OK},
	})
	checkShow(t, second, shown)
	checkLog(t, second, log)
	if got, want := lasts(second), [api.Clients]int{2, 2, 0, 0}; got != want {
		t.Errorf("the last requests are %v; want %v", got, want)
	}
}
