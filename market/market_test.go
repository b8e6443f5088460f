package market_test

import (
	"fmt"
	"math"
	"testing"

	"market/api"
	"market/market"
)

const emptyAccount = "0+0 0+0 0+0"
const emptyMarket = emptyAccount + ";" + emptyAccount + ";" + emptyAccount + ";" + emptyAccount + ";0;u;u"

// step is a command and what it is to be answered.
type step struct {
	command, answer string
	errno           api.Errno
}

// lasts tells the last request of each client.
func lasts(m *market.Market) [api.Clients]int {
	var l [api.Clients]int
	for c := range l {
		l[c] = m.Last(c)
	}
	return l
}

// play does one command behind the other on the market. Whatever the commands are, it wants no answer
// beside an error, no change by a refused command but that of P9, none by a repeated one, and just those
// commands in the log that became a last request.
func play(t *testing.T, m *market.Market, steps []step) {
	t.Helper()
	for i, s := range steps {
		shown, before, log := m.Show(), lasts(m), m.Log()
		answer, errno := m.Do(s.command)
		if answer != s.answer || errno != s.errno {
			t.Fatalf("step %d: Do(%q) = %q, %d; want %q, %d", i, s.command, answer, errno, s.answer, s.errno)
		}
		checkRequest(t, m, s.command, errno, before)
		if lasts(m) != before {
			log += fmt.Sprintf("%02d%s", len(s.command), s.command)
		}
		checkLog(t, m, log)
		if errno != api.OK && m.Show() != shown {
			t.Fatalf("step %d: Do(%q), refused, made %s of %s", i, s.command, m.Show(), shown)
		}
		if errno == api.ErrForm || errno == api.ErrOld || errno == api.ErrGap {
			continue
		}
		shown = m.Show()
		again, errnoAgain := m.Do(s.command)
		if again != answer || errnoAgain != errno || m.Show() != shown {
			t.Fatalf("step %d: Do(%q) again = %q, %d, and %s; the first time %q, %d, and %s", i, s.command, again, errnoAgain, m.Show(), answer, errno, shown)
		}
		checkLog(t, m, log)
	}
}

// checkRequest wants the last requests to be those before, but for that of the command, if it became one.
func checkRequest(t *testing.T, m *market.Market, command string, errno api.Errno, before [api.Clients]int) {
	t.Helper()
	want := before
	if errno != api.ErrForm && errno != api.ErrOld && errno != api.ErrGap {
		var client, number int
		if _, err := fmt.Sscanf(command, "%d %d", &client, &number); err != nil {
			t.Fatalf("%q is no command: %v", command, err)
		}
		want[client] = number
	}
	if got := lasts(m); got != want {
		t.Fatalf("Do(%q), answered %d: the last requests are %v; want %v", command, errno, got, want)
	}
}

func checkShow(t *testing.T, m *market.Market, want string) {
	t.Helper()
	if got := m.Show(); got != want {
		t.Fatalf("Show() = %s; want %s", got, want)
	}
}

func checkLog(t *testing.T, m *market.Market, want string) {
	t.Helper()
	if got := m.Log(); got != want {
		t.Fatalf("Log() = %q; want %q", got, want)
	}
}

func TestNewMarketIsEmpty(t *testing.T) {
	m := market.New()
	checkShow(t, m, emptyMarket)
	checkShow(t, m, "0+0 0+0 0+0;0+0 0+0 0+0;0+0 0+0 0+0;0+0 0+0 0+0;0;u;u")
	if got := lasts(m); got != [api.Clients]int{} {
		t.Errorf("the last requests of a new market are %v", got)
	}
	checkLog(t, m, "")
}

func TestShowWritesEachPartInItsPlace(t *testing.T) {
	m := market.New()
	play(t, m, []step{
		{"0 1 pay 1234", "", api.OK},
		{"1 1 pay 77", "", api.OK},
		{"2 1 pay 300", "", api.OK},
		{"3 1 pay 5", "", api.OK},
		{"0 2 bring 0 11", "", api.OK},
		{"0 3 bring 1 12", "", api.OK},
		{"1 2 bring 0 21", "", api.OK},
		{"1 3 bring 1 22", "", api.OK},
		{"2 2 bring 0 31", "", api.OK},
		{"3 2 bring 1 42", "", api.OK},
		{"2 3 mode 1 m", "", api.OK},
	})
	checkShow(t, m, "1234+0 11+0 12+0;77+0 21+0 22+0;300+0 31+0 0+0;5+0 0+0 42+0;0;u;m")
	play(t, m, []step{
		{"0 4 buy 0 50 20", "0", api.OK},
		{"1 4 sell 0 99 1", "1", api.OK},
		{"3 3 sell 1 7 1", "0", api.OK},
		{"2 4 buy 1 100 1", "", api.ErrForm},
		{"2 4 buy 1 99 1", "1", api.OK},
		{"2 5 sell 0 1 9", "2", api.OK},
	})
	checkShow(t, m, "234+1000 11+0 12+0;77+0 20+1 22+0;201+99 22+9 0+0;5+0 0+0 41+1;0;u0B0@50x20,1S1@99x1,2S2@1x9;m0S3@7x1,1B2@99x1")
	checkShow(t, m, "234+1000 11+0 12+0;77+0 20+1 22+0;201+99 22+9 0+0;5+0 0+0 41+1;0;u0B0@50x20,1S1@99x1,2S2@1x9;m0S3@7x1,1B2@99x1")
}

func TestFirstMarketOfTheDocument(t *testing.T) {
	m := market.New()
	play(t, m, []step{
		{"0 1 pay 1000", "", api.OK},
		{"1 1 bring 0 20", "", api.OK},
		{"2 1 pay 500", "", api.OK},
		{"0 2 close 0", "0", api.OK},
		{"0 3 buy 0 50 5", "0", api.OK},
		{"1 2 sell 0 40 3", "1", api.OK},
		{"2 2 buy 0 45 4", "2", api.OK},
	})
	checkShow(t, m, "750+250 0+0 0+0;0+0 17+3 0+0;320+180 0+0 0+0;"+emptyAccount+";0;u0B0@50x5,1S1@40x3,2B2@45x4;u")
	play(t, m, []step{{"2 3 close 0", "3@46/46", api.OK}})
	checkShow(t, m, "862+0 3+0 0+0;138+0 17+0 0+0;500+0 0+0 0+0;0+0 0+0 0+0;0;u;u")
}

func TestSecondMarketOfTheDocument(t *testing.T) {
	m := market.New()
	play(t, m, []step{
		{"0 1 pay 100", "", api.OK},
		{"1 1 bring 0 5", "", api.OK},
		{"0 2 buy 0 20 2", "0", api.OK},
		{"1 2 sell 0 10 2", "1", api.OK},
		{"2 1 close 0", "2@10/10", api.OK},
		{"2 1 close 0", "2@10/10", api.OK},
		{"2 1 pay 7", "2@10/10", api.OK},
	})
	checkShow(t, m, "80+0 2+0 0+0;20+0 3+0 0+0;0+0 0+0 0+0;0+0 0+0 0+0;0;u;u")
	play(t, m, []step{
		{"2 2 close 0", "0", api.OK},
		{"2 1 close 0", "", api.ErrOld},
	})
	checkShow(t, m, "80+0 2+0 0+0;20+0 3+0 0+0;0+0 0+0 0+0;0+0 0+0 0+0;0;u;u")
}

func TestThirdMarketOfTheDocument(t *testing.T) {
	m := market.New()
	checkLog(t, m, "")
	play(t, m, []step{
		{"0 1 pay 100", "", api.OK},
		{"0 2 draw 200", "", api.ErrFunds},
	})
	checkLog(t, m, "110 1 pay 100120 2 draw 200")
	play(t, m, []step{
		{"0 2 draw 200", "", api.ErrFunds},
		{"0 1 pay 1", "", api.ErrOld},
		{"0 4 pay 1", "", api.ErrGap},
		{"nothing", "", api.ErrForm},
	})
	checkLog(t, m, "110 1 pay 100120 2 draw 200")
	checkShow(t, m, "100+0 0+0 0+0;"+emptyAccount+";"+emptyAccount+";"+emptyAccount+";0;u;u")
}

func TestRepeatedRequestIsAnsweredAsBefore(t *testing.T) {
	m := market.New()
	play(t, m, []step{
		{"0 1 pay 100", "", api.OK},
		{"0 1 pay 100", "", api.OK},
		{"0 1 draw 9999", "", api.OK},
		{"0 1 drop 1 11", "", api.OK},
		{"0 1 mode 1 m", "", api.OK},
		{"0 1 pay", "", api.ErrForm},
		{"0 1 pay 0", "", api.ErrForm},
	})
	checkShow(t, m, "100+0 0+0 0+0;"+emptyAccount+";"+emptyAccount+";"+emptyAccount+";0;u;u")
	play(t, m, []step{
		{"0 2 buy 0 10 3", "0", api.OK},
		{"0 2 buy 0 10 3", "0", api.OK},
		{"0 2 buy 1 10 3", "0", api.OK},
		{"0 2 drop 0 0", "0", api.OK},
		{"0 2 draw 71", "0", api.OK},
		{"0 3 buy 0 10 1", "1", api.OK},
		{"0 3 pay 5", "1", api.OK},
		{"0 2 buy 0 10 3", "", api.ErrOld},
		{"0 3 buy 0 10 1", "1", api.OK},
	})
	checkShow(t, m, "60+40 0+0 0+0;"+emptyAccount+";"+emptyAccount+";"+emptyAccount+";0;u0B0@10x3,1B0@10x1;u")
}

func TestRepeatedRequestIsRefusedAsBefore(t *testing.T) {
	m := market.New()
	play(t, m, []step{
		{"0 1 draw 1", "", api.ErrFunds},
		{"1 1 pay 100", "", api.OK},
		{"0 1 draw 1", "", api.ErrFunds},
		{"0 1 pay 1", "", api.ErrFunds},
		{"1 2 pay 9900", "", api.ErrMax},
		{"1 3 draw 100", "", api.OK},
		{"1 2 pay 9900", "", api.ErrOld},
		{"2 1 drop 0 0", "", api.ErrOrder},
		{"2 1 pay 1", "", api.ErrOrder},
		{"2 2 pay 1", "", api.OK},
		{"2 2 drop 0 0", "", api.OK},
	})
	checkShow(t, m, emptyAccount+";"+emptyAccount+";1+0 0+0 0+0;"+emptyAccount+";0;u;u")
}

func TestRequestsOfEachClientAreCountedForThemselves(t *testing.T) {
	m := market.New()
	play(t, m, []step{
		{"3 2 pay 1", "", api.ErrGap},
		{"3 99 pay 1", "", api.ErrGap},
		{"3 1 pay 1", "", api.OK},
		{"2 2 pay 1", "", api.ErrGap},
		{"3 3 pay 1", "", api.ErrGap},
		{"3 2 pay 2", "", api.OK},
		{"2 1 pay 4", "", api.OK},
		{"3 1 pay 8", "", api.ErrOld},
		{"0 2 pay 1", "", api.ErrGap},
		{"3 4 pay 1", "", api.ErrGap},
		{"3 3 pay 16", "", api.OK},
		{"3 2 pay 16", "", api.ErrOld},
		{"3 1 pay 16", "", api.ErrOld},
	})
	checkShow(t, m, emptyAccount+";"+emptyAccount+";4+0 0+0 0+0;19+0 0+0 0+0;0;u;u")
	if got, want := lasts(m), [api.Clients]int{0, 0, 1, 3}; got != want {
		t.Errorf("the last requests are %v; want %v", got, want)
	}
}

func TestRequestsEndWithTheGreatestNumber(t *testing.T) {
	m := market.New()
	for r := 1; r <= api.MaxRequest; r++ {
		play(t, m, []step{{fmt.Sprintf("1 %d pay 2", r), "", api.OK}})
	}
	play(t, m, []step{
		{"1 100 pay 2", "", api.ErrForm},
		{"1 99 pay 3", "", api.OK},
		{"1 98 pay 2", "", api.ErrOld},
		{"1 1 pay 2", "", api.ErrOld},
		{"1 0 pay 2", "", api.ErrForm},
	})
	checkShow(t, m, emptyAccount+";198+0 0+0 0+0;"+emptyAccount+";"+emptyAccount+";0;u;u")
	if got := m.Last(1); got != api.MaxRequest {
		t.Errorf("Last(1) = %d; want %d", got, api.MaxRequest)
	}
}

func TestLastOfNoClientIsNought(t *testing.T) {
	m := market.New()
	for c := range api.Clients {
		play(t, m, []step{{fmt.Sprintf("%d 1 pay 1", c), "", api.OK}})
	}
	for _, c := range []int{-1, -2, api.Clients, api.Clients + 1, 100, 1 << 32, 1<<32 + 1, math.MinInt, math.MaxInt, math.MinInt32, math.MaxInt32} {
		if got := m.Last(c); got != 0 {
			t.Errorf("Last(%d) = %d; want 0", c, got)
		}
	}
}
