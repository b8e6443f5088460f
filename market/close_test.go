package market_test

import (
	"fmt"
	"testing"

	"market/api"
	"market/market"
)

// richAgain is what richMarket shows, with the modes of both voyages.
func richAgain(modes string) string {
	return "1999+0 100+0 100+0;1999+0 100+0 100+0;" + emptyAccount + ";" + emptyAccount + ";0;" + modes
}

func TestCloseIsARequestLikeOthers(t *testing.T) {
	m := market.New()
	play(t, m, []step{
		{"2 1 close 0", "0", api.OK},
		{"2 2 close 1", "0", api.OK},
		{"2 1 close 0", "", api.ErrOld},
		{"2 4 close 0", "", api.ErrGap},
		{"2 3 close 2", "", api.ErrForm},
		{"2 3 close 1", "0", api.OK},
	})
	checkShow(t, m, emptyMarket)
}

func TestCloseWithoutTradeFreesAllThatWasHeld(t *testing.T) {
	m := richMarket(t)
	play(t, m, []step{{"0 5 close 0", "0", api.OK}})
	checkShow(t, m, richAgain("u;u"))
	play(t, m, []step{
		{"0 6 buy 0 50 3", "0", api.OK},
		{"0 7 buy 0 60 2", "1", api.OK},
		{"1 5 close 0", "0", api.OK},
	})
	checkShow(t, m, richAgain("u;u"))
	play(t, m, []step{
		{"1 6 sell 1 10 5", "0", api.OK},
		{"0 8 sell 1 99 20", "1", api.OK},
		{"1 7 close 1", "0", api.OK},
	})
	checkShow(t, m, richAgain("u;u"))
	play(t, m, []step{
		{"0 9 buy 0 49 3", "0", api.OK},
		{"1 8 sell 0 50 3", "1", api.OK},
		{"3 1 close 0", "0", api.OK},
	})
	checkShow(t, m, richAgain("u;u"))
}

func TestCloseOfModeMWithoutTradeFreesAllThatWasHeld(t *testing.T) {
	m := richMarket(t)
	play(t, m, []step{
		{"3 1 mode 1 m", "", api.OK},
		{"3 2 close 1", "0", api.OK},
		{"0 5 buy 1 90 1", "0", api.OK},
		{"3 3 close 1", "0", api.OK},
		{"0 6 sell 1 90 1", "0", api.OK},
		{"3 4 close 1", "0", api.OK},
		{"0 7 buy 1 49 1", "0", api.OK},
		{"1 5 sell 1 50 1", "1", api.OK},
		{"3 5 close 1", "0", api.OK},
	})
	checkShow(t, m, richAgain("u;m"))
	// The only pair is dropped: half of 0 + 100 lies below what the seller asks, or above what the buyer offers.
	play(t, m, []step{
		{"0 8 buy 1 90 1", "0", api.OK},
		{"1 6 sell 1 60 1", "1", api.OK},
		{"2 1 close 1", "0", api.OK},
		{"0 9 buy 1 49 1", "0", api.OK},
		{"1 7 sell 1 1 1", "1", api.OK},
		{"2 2 close 1", "0", api.OK},
	})
	checkShow(t, m, richAgain("u;m"))
}

func TestCloseServesBuyersInPart(t *testing.T) {
	m := market.New()
	play(t, m, []step{
		{"0 1 pay 1000", "", api.OK},
		{"1 1 bring 0 20", "", api.OK},
		{"2 1 pay 500", "", api.OK},
		{"3 1 pay 200", "", api.OK},
		{"0 2 buy 0 60 10", "0", api.OK},
		{"2 2 buy 0 50 5", "1", api.OK},
		{"3 2 buy 0 40 3", "2", api.OK},
		{"1 2 sell 0 45 12", "3", api.OK},
	})
	checkShow(t, m, "400+600 0+0 0+0;0+0 8+12 0+0;250+250 0+0 0+0;80+120 0+0 0+0;0;u0B0@60x10,1B2@50x5,2B3@40x3,3S1@45x12;u")
	play(t, m, []step{{"3 3 close 0", "12@45/45", api.OK}})
	checkShow(t, m, "640+0 8+0 0+0;540+0 8+0 0+0;320+0 4+0 0+0;200+0 0+0 0+0;0;u;u")
}

func TestCloseServesSellersInPart(t *testing.T) {
	m := market.New()
	play(t, m, []step{
		{"0 1 bring 1 7", "", api.OK},
		{"1 1 bring 1 2", "", api.OK},
		{"2 1 bring 1 3", "", api.OK},
		{"2 2 bring 0 9", "", api.OK},
		{"3 1 pay 310", "", api.OK},
		{"0 2 sell 1 50 7", "0", api.OK},
		{"1 2 sell 1 50 2", "1", api.OK},
		{"2 3 sell 1 50 2", "2", api.OK},
		{"3 2 buy 1 50 6", "3", api.OK},
		{"0 3 close 1", "6@50/50", api.OK},
	})
	checkShow(t, m, "200+0 0+0 3+0;50+0 0+0 1+0;50+0 9+0 2+0;10+0 0+0 6+0;0;u;u")
}

// TestCloseClearsInTheOrderOfComing has clients come in another order than that of their numbers, and one of
// them come again behind the others.
func TestCloseClearsInTheOrderOfComing(t *testing.T) {
	m := market.New()
	play(t, m, []step{
		{"0 1 pay 100", "", api.OK},
		{"2 1 pay 100", "", api.OK},
		{"3 1 pay 100", "", api.OK},
		{"1 1 bring 0 5", "", api.OK},
		{"0 2 buy 0 50 2", "0", api.OK},
		{"3 2 buy 0 50 2", "1", api.OK},
		{"2 2 buy 0 50 2", "2", api.OK},
		{"0 3 drop 0 0", "", api.OK},
		{"0 4 buy 0 50 2", "3", api.OK},
		{"1 2 sell 0 50 5", "4", api.OK},
		{"1 3 close 0", "5@50/50", api.OK},
	})
	checkShow(t, m, "50+0 1+0 0+0;250+0 0+0 0+0;0+0 2+0 0+0;0+0 2+0 0+0;0;u;u")
}

func TestCloseOfModeMClearsInTheOrderOfComing(t *testing.T) {
	m := market.New()
	play(t, m, []step{
		{"1 1 pay 80", "", api.OK},
		{"3 1 pay 80", "", api.OK},
		{"0 1 bring 0 1", "", api.OK},
		{"2 1 bring 0 1", "", api.OK},
		{"0 2 mode 0 m", "", api.OK},
		{"0 3 sell 0 60 1", "0", api.OK},
		{"3 2 buy 0 80 1", "1", api.OK},
		{"1 2 buy 0 80 1", "2", api.OK},
		{"2 2 sell 0 60 1", "3", api.OK},
		{"0 4 drop 0 0", "", api.OK},
		{"0 5 sell 0 60 1", "4", api.OK},
		{"0 6 close 0", "1@80/60", api.OK},
	})
	checkShow(t, m, "0+0 1+0 0+0;80+0 0+0 0+0;60+0 0+0 0+0;0+0 1+0 0+0;20;m;u")
}

func TestDroppedOrdersAreNotCleared(t *testing.T) {
	m := richMarket(t)
	play(t, m, []step{
		{"0 5 buy 0 90 5", "0", api.OK},
		{"1 5 sell 0 10 5", "1", api.OK},
		{"0 6 buy 0 30 2", "2", api.OK},
		{"0 7 drop 0 0", "", api.OK},
		{"1 6 sell 0 20 1", "3", api.OK},
		{"1 7 drop 0 1", "", api.OK},
		{"2 1 close 0", "1@20/20", api.OK},
	})
	checkShow(t, m, "1979+0 101+0 100+0;2019+0 99+0 100+0;"+emptyAccount+";"+emptyAccount+";0;u;u")
	play(t, m, []step{
		{"0 8 buy 0 90 5", "0", api.OK},
		{"1 8 sell 0 10 5", "1", api.OK},
		{"0 9 drop 0 0", "", api.OK},
		{"2 2 close 0", "0", api.OK},
	})
	checkShow(t, m, "1979+0 101+0 100+0;2019+0 99+0 100+0;"+emptyAccount+";"+emptyAccount+";0;u;u")
}

// TestClientTradesWithItself has several orders of one client in the batch, on both sides.
func TestClientTradesWithItself(t *testing.T) {
	m := richMarket(t)
	play(t, m, []step{
		{"0 5 buy 0 60 3", "0", api.OK},
		{"0 6 buy 0 55 2", "1", api.OK},
		{"0 7 sell 0 40 4", "2", api.OK},
		{"1 5 sell 0 70 2", "3", api.OK},
		{"0 8 close 0", "4@40/40", api.OK},
	})
	checkShow(t, m, richAgain("u;u"))
	play(t, m, []step{
		{"0 9 buy 0 60 3", "0", api.OK},
		{"0 10 sell 0 40 2", "1", api.OK},
		{"1 6 sell 0 50 1", "2", api.OK},
		{"0 11 close 0", "3@50/50", api.OK},
	})
	checkShow(t, m, "1949+0 101+0 100+0;2049+0 99+0 100+0;"+emptyAccount+";"+emptyAccount+";0;u;u")
}

func TestCloseLeavesTheOtherVoyageAlone(t *testing.T) {
	m := richMarket(t)
	play(t, m, []step{
		{"2 1 mode 0 m", "", api.OK},
		{"0 5 buy 0 60 1", "0", api.OK},
		{"1 5 sell 0 40 1", "1", api.OK},
		{"0 6 buy 1 30 4", "0", api.OK},
		{"1 6 sell 1 20 3", "1", api.OK},
		{"2 2 close 1", "3@20/20", api.OK},
	})
	checkShow(t, m, "1879+60 100+0 103+0;2059+0 99+1 97+0;"+emptyAccount+";"+emptyAccount+";0;m0B0@60x1,1S1@40x1;u")
	play(t, m, []step{
		{"0 7 sell 1 99 2", "0", api.OK},
		{"2 3 pay 70", "", api.OK},
		{"2 4 buy 0 1 1", "2", api.OK},
		{"2 5 close 0", "1@50/50", api.OK},
	})
	checkShow(t, m, "1889+0 101+0 101+2;2109+0 99+0 97+0;70+0 0+0 0+0;"+emptyAccount+";0;m;u0S0@99x2")
	play(t, m, []step{{"0 8 sell 1 98 1", "1", api.OK}})
}

func TestNumbersBeginAgainBehindClose(t *testing.T) {
	m := richMarket(t)
	for i := range api.MaxOrders {
		play(t, m, []step{
			{fmt.Sprintf("0 %d buy 0 2 1", 5+2*i), fmt.Sprint(i), api.OK},
			{fmt.Sprintf("0 %d buy 1 2 1", 6+2*i), fmt.Sprint(i), api.OK},
		})
	}
	play(t, m, []step{
		{"0 29 drop 0 11", "", api.OK},
		{"0 30 buy 0 2 1", "", api.ErrFull},
		{"2 1 close 0", "0", api.OK},
		{"0 31 drop 0 0", "", api.ErrOrder},
		{"0 32 drop 0 10", "", api.ErrOrder},
		{"0 33 buy 1 2 1", "", api.ErrFull},
		{"1 5 sell 0 3 4", "0", api.OK},
		{"0 34 drop 0 0", "", api.ErrOrder},
		{"0 35 buy 0 2 2", "1", api.OK},
		{"1 6 drop 0 0", "", api.OK},
		{"1 7 sell 0 3 5", "2", api.OK},
	})
	checkShow(t, m, "1971+28 100+0 100+0;1999+0 95+5 100+0;"+emptyAccount+";"+emptyAccount+
		";0;u1B0@2x2,2S1@3x5;u0B0@2x1,1B0@2x1,2B0@2x1,3B0@2x1,4B0@2x1,5B0@2x1,6B0@2x1,7B0@2x1,8B0@2x1,9B0@2x1,10B0@2x1,11B0@2x1")
	// Behind a close that traded, and one of nothing but dropped orders.
	play(t, m, []step{
		{"1 8 sell 0 2 1", "3", api.OK},
		{"1 9 close 0", "1@2/2", api.OK},
		{"1 10 sell 0 2 1", "0", api.OK},
		{"1 11 drop 0 0", "", api.OK},
		{"1 12 sell 0 2 1", "1", api.OK},
		{"1 13 drop 0 1", "", api.OK},
		{"1 14 close 0", "0", api.OK},
		{"1 15 sell 0 2 1", "0", api.OK},
	})
}

// TestFullBatchIsCleared fills a batch with the greatest orders that the cash of all can pay for.
func TestFullBatchIsCleared(t *testing.T) {
	m := market.New()
	play(t, m, []step{
		{"0 1 pay 9960", "", api.OK},
		{"1 1 bring 1 120", "", api.OK},
	})
	for i := range 6 {
		play(t, m, []step{
			{fmt.Sprintf("0 %d buy 1 83 20", 2+i), fmt.Sprint(2 * i), api.OK},
			{fmt.Sprintf("1 %d sell 1 83 20", 2+i), fmt.Sprint(2*i + 1), api.OK},
		})
	}
	play(t, m, []step{
		{"2 1 buy 1 1 1", "", api.ErrFull},
		{"2 2 close 1", "120@83/83", api.OK},
	})
	checkShow(t, m, "0+0 0+0 120+0;9960+0 0+0 0+0;"+emptyAccount+";"+emptyAccount+";0;u;u")
}

func TestAllPairsOfModeMTradeAtOnePrice(t *testing.T) {
	m := market.New()
	play(t, m, []step{
		{"0 1 pay 100", "", api.OK},
		{"1 1 pay 100", "", api.OK},
		{"2 1 bring 1 3", "", api.OK},
		{"3 1 bring 1 1", "", api.OK},
		{"0 2 mode 1 m", "", api.OK},
		{"0 3 buy 1 60 1", "0", api.OK},
		{"1 2 buy 1 50 1", "1", api.OK},
		{"2 2 sell 1 40 1", "2", api.OK},
		{"3 2 sell 1 45 1", "3", api.OK},
		{"0 4 close 1", "2@50/50", api.OK},
	})
	checkShow(t, m, "50+0 0+0 1+0;50+0 0+0 1+0;50+0 0+0 2+0;50+0 0+0 0+0;0;u;m")
	// Behind the only pair stand a buyer and a seller, who make the price, and get nothing.
	play(t, m, []step{
		{"0 5 buy 1 50 1", "0", api.OK},
		{"1 3 buy 1 20 1", "1", api.OK},
		{"2 3 sell 1 30 1", "2", api.OK},
		{"3 3 pay 1", "", api.OK},
		{"3 4 bring 1 1", "", api.OK},
		{"3 5 sell 1 47 1", "3", api.OK},
		{"3 6 close 1", "1@33/33", api.OK},
	})
	checkShow(t, m, "17+0 0+0 2+0;50+0 0+0 1+0;83+0 0+0 1+0;51+0 0+0 1+0;0;u;m")
}

// reduced is a market with two voyages of mode m, whose clients 0 and 1 buy and 2 and 3 sell one slot of each: at
// voyage 0 the first pair will trade at 80 and 70, and at voyage 1 at 97 and 95.
func reduced(t *testing.T) *market.Market {
	t.Helper()
	m := market.New()
	play(t, m, []step{
		{"0 1 pay 200", "", api.OK},
		{"1 1 pay 200", "", api.OK},
		{"2 1 bring 0 1", "", api.OK},
		{"3 1 bring 0 1", "", api.OK},
		{"2 2 bring 1 1", "", api.OK},
		{"3 2 bring 1 1", "", api.OK},
		{"0 2 mode 0 m", "", api.OK},
		{"0 3 mode 1 m", "", api.OK},
		{"0 4 buy 0 90 1", "0", api.OK},
		{"1 2 buy 0 80 1", "1", api.OK},
		{"2 3 sell 0 60 1", "2", api.OK},
		{"3 3 sell 0 70 1", "3", api.OK},
		{"3 4 sell 1 10 1", "0", api.OK},
		{"2 4 sell 1 95 1", "1", api.OK},
		{"1 3 buy 1 99 1", "2", api.OK},
		{"0 5 buy 1 97 1", "3", api.OK},
	})
	return m
}

func TestHouseGetsWhatBuyersPayAboveWhatSellersGet(t *testing.T) {
	m := reduced(t)
	play(t, m, []step{{"0 6 close 0", "1@80/70", api.OK}})
	checkShow(t, m, "23+97 1+0 0+0;101+99 0+0 0+0;70+0 0+0 0+1;0+0 1+0 0+1;10;m;m0S3@10x1,1S2@95x1,2B1@99x1,3B0@97x1")
	play(t, m, []step{{"0 7 close 1", "1@97/95", api.OK}})
	checkShow(t, m, "120+0 1+0 0+0;103+0 0+0 1+0;70+0 0+0 1+0;95+0 1+0 0+0;12;m;m")
	// A close at one price leaves the house what it has.
	play(t, m, []step{
		{"0 8 mode 0 u", "", api.OK},
		{"3 5 sell 0 40 1", "0", api.OK},
		{"1 4 buy 0 60 1", "1", api.OK},
		{"1 5 close 0", "1@40/40", api.OK},
	})
	checkShow(t, m, "120+0 1+0 0+0;63+0 1+0 1+0;70+0 0+0 1+0;135+0 0+0 0+0;12;u;m")
}

func TestHouseCountsWithTheCashOfAll(t *testing.T) {
	m := reduced(t)
	play(t, m, []step{
		{"0 6 close 0", "1@80/70", api.OK},
		{"0 7 close 1", "1@97/95", api.OK},
		{"2 5 pay 9600", "", api.ErrMax},
		{"2 6 pay 9599", "", api.OK},
		{"3 5 pay 1", "", api.ErrMax},
		{"0 8 draw 120", "", api.OK},
		{"1 4 draw 103", "", api.OK},
		{"2 7 draw 9669", "", api.OK},
		{"3 6 draw 96", "", api.ErrFunds},
		{"3 7 draw 95", "", api.OK},
		{"3 8 pay 9988", "", api.ErrMax},
		{"3 9 pay 9987", "", api.OK},
	})
	checkShow(t, m, "0+0 1+0 0+0;0+0 0+0 1+0;0+0 0+0 1+0;9987+0 1+0 0+0;12;m;m")
}

func TestWhatWasTradedIsFree(t *testing.T) {
	m := market.New()
	play(t, m, []step{
		{"0 1 pay 100", "", api.OK},
		{"1 1 bring 0 5", "", api.OK},
		{"0 2 buy 0 20 5", "0", api.OK},
		{"1 2 sell 0 12 5", "1", api.OK},
		{"0 3 close 0", "5@12/12", api.OK},
		{"0 4 fetch 0 6", "", api.ErrFunds},
		{"0 5 fetch 1 1", "", api.ErrFunds},
		{"0 6 fetch 0 2", "", api.OK},
		{"0 7 sell 0 30 4", "", api.ErrFunds},
		{"0 8 sell 0 30 3", "0", api.OK},
		{"0 9 draw 41", "", api.ErrFunds},
		{"0 10 draw 40", "", api.OK},
		{"1 3 draw 61", "", api.ErrFunds},
		{"1 4 buy 1 61 1", "", api.ErrFunds},
		{"1 5 buy 0 30 2", "1", api.OK},
		{"1 6 fetch 0 1", "", api.ErrFunds},
		{"1 7 bring 0 995", "", api.OK},
		{"1 8 bring 0 2", "", api.ErrMax},
		{"2 1 close 0", "2@30/30", api.OK},
	})
	checkShow(t, m, "60+0 1+0 0+0;0+0 997+0 0+0;"+emptyAccount+";"+emptyAccount+";0;u;u")
}

func TestModeBehindClose(t *testing.T) {
	m := richMarket(t)
	play(t, m, []step{
		{"2 1 mode 0 m", "", api.OK},
		{"0 5 buy 0 60 1", "0", api.OK},
		{"1 5 sell 0 40 1", "1", api.OK},
		{"0 6 buy 0 60 1", "", api.ErrMode},
		{"2 2 mode 0 u", "", api.ErrBusy},
		{"2 3 close 0", "1@50/50", api.OK},
		{"0 7 buy 0 60 2", "", api.ErrMode},
		{"0 8 buy 0 60 1", "0", api.OK},
		{"2 4 close 0", "0", api.OK},
		{"2 5 mode 0 u", "", api.OK},
		{"0 9 buy 0 60 2", "0", api.OK},
		{"1 6 sell 0 40 2", "1", api.OK},
		{"2 6 close 0", "2@40/40", api.OK},
	})
	checkShow(t, m, "1869+0 103+0 100+0;2129+0 97+0 100+0;"+emptyAccount+";"+emptyAccount+";0;u;u")
}

// TestRepeatedCloseIsNotDoneAgain repeats it when other orders stand in the batch, which it would clear.
func TestRepeatedCloseIsNotDoneAgain(t *testing.T) {
	m := richMarket(t)
	play(t, m, []step{
		{"0 5 buy 0 20 2", "0", api.OK},
		{"1 5 sell 0 10 2", "1", api.OK},
		{"2 1 close 0", "2@10/10", api.OK},
		{"0 6 buy 0 30 3", "0", api.OK},
		{"1 6 sell 0 25 3", "1", api.OK},
		{"2 1 close 0", "2@10/10", api.OK},
		{"2 1 close 1", "2@10/10", api.OK},
		{"2 1 pay 9999", "2@10/10", api.OK},
		{"2 3 close 0", "", api.ErrGap},
		{"1 5 close 0", "", api.ErrOld},
		{"1 6 close 0", "1", api.OK},
		{"2 2 close", "", api.ErrForm},
		{"2 2 close 2", "", api.ErrForm},
		{"2 2 close 0 0", "", api.ErrForm},
	})
	checkShow(t, m, "1889+90 102+0 100+0;2019+0 95+3 100+0;"+emptyAccount+";"+emptyAccount+";0;u0B0@30x3,1S1@25x3;u")
	play(t, m, []step{
		{"2 2 close 0", "3@25/25", api.OK},
		{"2 2 close 1", "3@25/25", api.OK},
		{"2 1 close 0", "", api.ErrOld},
	})
	checkShow(t, m, "1904+0 105+0 100+0;2094+0 95+0 100+0;"+emptyAccount+";"+emptyAccount+";0;u;u")
}
