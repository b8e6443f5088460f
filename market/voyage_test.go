package market_test

import (
	"fmt"
	"testing"

	"market/api"
	"market/market"
)

// richMarket is one in which clients 0 and 1 have cash, and slots of both voyages: four requests of each.
func richMarket(t *testing.T) *market.Market {
	t.Helper()
	m := market.New()
	for c := range 2 {
		play(t, m, []step{
			{fmt.Sprintf("%d 1 pay 2000", c), "", api.OK},
			{fmt.Sprintf("%d 2 bring 0 100", c), "", api.OK},
			{fmt.Sprintf("%d 3 bring 1 100", c), "", api.OK},
			{fmt.Sprintf("%d 4 draw 1", c), "", api.OK},
		})
	}
	return m
}

func TestOrderNeedsWhatIsFree(t *testing.T) {
	m := market.New()
	play(t, m, []step{
		{"0 1 buy 0 1 1", "", api.ErrFunds},
		{"0 2 sell 0 1 1", "", api.ErrFunds},
		{"0 3 pay 99", "", api.OK},
		{"0 4 bring 1 5", "", api.OK},
		{"0 5 buy 0 50 2", "", api.ErrFunds},
		{"0 6 buy 0 5 20", "", api.ErrFunds},
		{"0 7 sell 0 1 1", "", api.ErrFunds},
		{"0 8 sell 1 1 6", "", api.ErrFunds},
		{"1 1 sell 1 1 1", "", api.ErrFunds},
		{"1 2 buy 1 1 1", "", api.ErrFunds},
		{"0 9 buy 0 9 11", "0", api.OK},
		{"0 10 sell 1 99 5", "0", api.OK},
		{"0 11 buy 1 1 1", "", api.ErrFunds},
		{"0 12 sell 1 1 1", "", api.ErrFunds},
	})
	checkShow(t, m, "0+99 0+0 0+5;"+emptyAccount+";"+emptyAccount+";"+emptyAccount+";0;u0B0@9x11;u0S0@99x5")
}

func TestOrdersOfBothVoyagesHoldOneCash(t *testing.T) {
	m := market.New()
	play(t, m, []step{
		{"3 1 pay 100", "", api.OK},
		{"3 2 buy 0 30 2", "0", api.OK},
		{"3 3 buy 1 41 1", "", api.ErrFunds},
		{"3 4 buy 1 20 2", "0", api.OK},
		{"3 5 buy 0 1 1", "", api.ErrFunds},
		{"3 6 drop 0 0", "", api.OK},
		{"3 7 buy 1 61 1", "", api.ErrFunds},
		{"3 8 buy 1 60 1", "1", api.OK},
	})
	checkShow(t, m, emptyAccount+";"+emptyAccount+";"+emptyAccount+";0+100 0+0 0+0;0;u;u0B3@20x2,1B3@60x1")
}

func TestRefusedOrdersTakeNoNumber(t *testing.T) {
	m := richMarket(t)
	play(t, m, []step{
		{"0 5 buy 0 99 20", "0", api.OK},
		{"0 6 buy 0 99 20", "", api.ErrFunds},
		{"2 1 sell 0 1 1", "", api.ErrFunds},
		{"1 5 sell 0 1 1", "1", api.OK},
		{"1 6 sell 1 1 1", "0", api.OK},
		{"1 7 sell 0 1 1", "2", api.OK},
	})
	checkShow(t, m, "19+1980 100+0 100+0;1999+0 98+2 99+1;"+emptyAccount+";"+emptyAccount+";0;u0B0@99x20,1S1@1x1,2S1@1x1;u0S1@1x1")
}

func TestFullBatchTakesNoOrders(t *testing.T) {
	m := richMarket(t)
	for i := range 6 {
		play(t, m, []step{
			{fmt.Sprintf("0 %d buy 1 2 1", 5+i), fmt.Sprint(2 * i), api.OK},
			{fmt.Sprintf("1 %d sell 1 3 1", 5+i), fmt.Sprint(2*i + 1), api.OK},
		})
	}
	full := "u0B0@2x1,1S1@3x1,2B0@2x1,3S1@3x1,4B0@2x1,5S1@3x1,6B0@2x1,7S1@3x1,8B0@2x1,9S1@3x1,10B0@2x1,11S1@3x1"
	checkShow(t, m, "1987+12 100+0 100+0;1999+0 100+0 94+6;"+emptyAccount+";"+emptyAccount+";0;u;"+full)
	play(t, m, []step{
		{"0 11 buy 1 1 1", "", api.ErrFull},
		{"1 11 sell 1 1 1", "", api.ErrFull},
		{"2 1 buy 1 1 1", "", api.ErrFull},
		{"0 12 buy 0 1 1", "0", api.OK},
		{"0 13 drop 1 0", "", api.OK},
		{"0 14 drop 1 10", "", api.OK},
		{"1 12 drop 1 11", "", api.OK},
		{"0 15 buy 1 1 1", "", api.ErrFull},
		{"1 13 sell 1 1 1", "", api.ErrFull},
		{"1 14 sell 0 1 1", "1", api.OK},
	})
	checkShow(t, m, "1990+9 100+0 100+0;1999+0 99+1 95+5;"+emptyAccount+";"+emptyAccount+";0;u0B0@1x1,1S1@1x1;u1S1@3x1,2B0@2x1,3S1@3x1,4B0@2x1,5S1@3x1,6B0@2x1,7S1@3x1,8B0@2x1,9S1@3x1")
}

func TestBatchIsFullOfDroppedOrders(t *testing.T) {
	m := richMarket(t)
	for i := range api.MaxOrders {
		play(t, m, []step{
			{fmt.Sprintf("0 %d buy 0 1 1", 5+2*i), fmt.Sprint(i), api.OK},
			{fmt.Sprintf("0 %d drop 0 %d", 6+2*i, i), "", api.OK},
		})
	}
	play(t, m, []step{
		{"0 29 buy 0 1 1", "", api.ErrFull},
		{"1 5 sell 0 1 1", "", api.ErrFull},
		{"1 6 mode 0 m", "", api.OK},
		{"1 7 sell 0 1 1", "", api.ErrFull},
		{"1 8 sell 0 1 2", "", api.ErrMode},
		{"1 9 sell 1 1 2", "0", api.OK},
	})
	checkShow(t, m, "1999+0 100+0 100+0;1999+0 100+0 98+2;"+emptyAccount+";"+emptyAccount+";0;m;u0S1@1x2")
}

func TestModeMTakesOneSlotOfEachClient(t *testing.T) {
	m := richMarket(t)
	play(t, m, []step{
		{"0 5 mode 1 m", "", api.OK},
		{"0 6 buy 1 50 2", "", api.ErrMode},
		{"0 7 sell 1 50 20", "", api.ErrMode},
		{"0 8 buy 1 50 1", "0", api.OK},
		{"0 9 buy 1 40 1", "", api.ErrMode},
		{"0 10 sell 1 60 1", "", api.ErrMode},
		{"1 5 sell 1 60 2", "", api.ErrMode},
		{"1 6 sell 1 60 1", "1", api.OK},
		{"1 7 sell 1 60 1", "", api.ErrMode},
		{"1 8 buy 1 10 1", "", api.ErrMode},
		{"0 11 buy 0 10 2", "0", api.OK},
		{"0 12 buy 0 10 2", "1", api.OK},
		{"0 13 drop 1 0", "", api.OK},
		{"0 14 sell 1 70 1", "2", api.OK},
		{"0 15 sell 1 70 1", "", api.ErrMode},
	})
	checkShow(t, m, "1959+40 100+0 99+1;1999+0 100+0 99+1;"+emptyAccount+";"+emptyAccount+";0;u0B0@10x2,1B0@10x2;m1S1@60x1,2S0@70x1")
}

func TestFirstNamedErrorOfAnOrder(t *testing.T) {
	m := richMarket(t)
	play(t, m, []step{
		{"0 5 mode 0 m", "", api.OK},
		{"2 1 buy 0 50 2", "", api.ErrMode},
		{"2 2 buy 0 50 1", "", api.ErrFunds},
		{"2 3 sell 0 50 2", "", api.ErrMode},
		{"2 4 sell 0 50 1", "", api.ErrFunds},
		{"2 5 pay 10", "", api.OK},
		{"2 6 buy 0 10 1", "0", api.OK},
		{"2 7 buy 0 10 1", "", api.ErrMode},
		{"2 8 sell 0 10 1", "", api.ErrMode},
		{"2 9 drop 0 0", "", api.OK},
	})
	for i := 1; i < api.MaxOrders; i++ {
		play(t, m, []step{
			{fmt.Sprintf("0 %d sell 0 1 1", 4+2*i), fmt.Sprint(i), api.OK},
			{fmt.Sprintf("0 %d drop 0 %d", 5+2*i, i), "", api.OK},
		})
	}
	play(t, m, []step{
		{"0 28 buy 0 1 2", "", api.ErrMode},
		{"0 29 buy 0 1 1", "", api.ErrFull},
		{"3 1 buy 0 99 2", "", api.ErrMode},
		{"3 2 buy 0 99 1", "", api.ErrFull},
		{"3 3 sell 0 99 2", "", api.ErrMode},
		{"3 4 sell 0 99 1", "", api.ErrFull},
		{"0 30 mode 0 u", "", api.OK},
		{"3 5 buy 0 99 2", "", api.ErrFull},
		{"3 6 sell 0 99 2", "", api.ErrFull},
	})
}

func TestFullBatchOfModeM(t *testing.T) {
	m := richMarket(t)
	play(t, m, []step{{"0 5 mode 0 m", "", api.OK}})
	for i := range api.MaxOrders - 1 {
		play(t, m, []step{
			{fmt.Sprintf("0 %d buy 0 1 1", 6+2*i), fmt.Sprint(i), api.OK},
			{fmt.Sprintf("0 %d drop 0 %d", 7+2*i, i), "", api.OK},
		})
	}
	play(t, m, []step{
		{"0 28 buy 0 1 1", "11", api.OK},
		{"0 29 buy 0 1 1", "", api.ErrMode},
		{"1 5 buy 0 1 1", "", api.ErrFull},
	})
	checkShow(t, m, "1998+1 100+0 100+0;1999+0 100+0 100+0;"+emptyAccount+";"+emptyAccount+";0;m11B0@1x1;u")
}

func TestDropTakesOnlyTheClientsOwnOrder(t *testing.T) {
	m := richMarket(t)
	play(t, m, []step{
		{"0 5 drop 0 0", "", api.ErrOrder},
		{"0 6 buy 0 50 3", "0", api.OK},
		{"1 5 sell 0 60 4", "1", api.OK},
		{"0 7 sell 0 70 5", "2", api.OK},
		{"1 6 buy 1 10 6", "0", api.OK},
		{"0 8 drop 0 1", "", api.ErrOrder},
		{"1 7 drop 0 0", "", api.ErrOrder},
		{"0 9 drop 1 0", "", api.ErrOrder},
		{"0 10 drop 1 2", "", api.ErrOrder},
		{"1 8 drop 0 3", "", api.ErrOrder},
		{"1 9 drop 0 11", "", api.ErrOrder},
		{"2 1 drop 0 0", "", api.ErrOrder},
	})
	checkShow(t, m, "1849+150 95+5 100+0;1939+60 96+4 100+0;"+emptyAccount+";"+emptyAccount+";0;u0B0@50x3,1S1@60x4,2S0@70x5;u0B1@10x6")
	play(t, m, []step{
		{"1 10 drop 0 1", "", api.OK},
		{"1 11 drop 0 1", "", api.ErrOrder},
	})
	checkShow(t, m, "1849+150 95+5 100+0;1939+60 100+0 100+0;"+emptyAccount+";"+emptyAccount+";0;u0B0@50x3,2S0@70x5;u0B1@10x6")
	play(t, m, []step{
		{"0 11 drop 0 0", "", api.OK},
		{"1 12 buy 0 7 2", "3", api.OK},
		{"0 12 drop 0 0", "", api.ErrOrder},
		{"0 13 drop 0 2", "", api.OK},
		{"1 13 drop 1 0", "", api.OK},
	})
	checkShow(t, m, "1999+0 100+0 100+0;1985+14 100+0 100+0;"+emptyAccount+";"+emptyAccount+";0;u3B1@7x2;u")
}

func TestDroppedOrderGivesBackItsOwnVoyagesSlots(t *testing.T) {
	m := richMarket(t)
	play(t, m, []step{
		{"0 5 sell 0 50 3", "0", api.OK},
		{"0 6 sell 1 50 8", "0", api.OK},
		{"0 7 buy 1 20 2", "1", api.OK},
		{"0 8 drop 1 0", "", api.OK},
	})
	checkShow(t, m, "1959+40 97+3 100+0;1999+0 100+0 100+0;"+emptyAccount+";"+emptyAccount+";0;u0S0@50x3;u1B0@20x2")
	play(t, m, []step{
		{"0 9 fetch 1 100", "", api.OK},
		{"0 10 fetch 0 98", "", api.ErrFunds},
		{"0 11 drop 0 0", "", api.OK},
		{"0 12 fetch 0 100", "", api.OK},
		{"0 13 drop 1 1", "", api.OK},
		{"0 14 draw 1999", "", api.OK},
	})
	checkShow(t, m, emptyAccount+";1999+0 100+0 100+0;"+emptyAccount+";"+emptyAccount+";0;u;u")
}

func TestModeIsSetWhereNoOrderIs(t *testing.T) {
	m := richMarket(t)
	play(t, m, []step{
		{"3 1 mode 0 m", "", api.OK},
		{"3 2 mode 0 m", "", api.OK},
		{"2 1 mode 0 u", "", api.OK},
		{"0 5 buy 0 10 2", "0", api.OK},
		{"0 6 mode 0 m", "", api.ErrBusy},
		{"1 5 mode 0 m", "", api.ErrBusy},
		{"1 6 mode 0 u", "", api.ErrBusy},
		{"1 7 mode 1 m", "", api.OK},
		{"1 8 sell 1 10 1", "0", api.OK},
		{"0 7 mode 1 m", "", api.ErrBusy},
		{"0 8 mode 1 u", "", api.ErrBusy},
		{"0 9 sell 0 90 2", "1", api.OK},
		{"0 10 drop 0 0", "", api.OK},
		{"0 11 mode 0 m", "", api.ErrBusy},
		{"0 12 drop 0 1", "", api.OK},
		{"0 13 mode 0 m", "", api.OK},
	})
	checkShow(t, m, "1999+0 100+0 100+0;1999+0 100+0 99+1;"+emptyAccount+";"+emptyAccount+";0;m;m0S1@10x1")
	play(t, m, []step{
		{"1 9 drop 1 0", "", api.OK},
		{"3 3 mode 1 u", "", api.OK},
		{"1 10 sell 1 10 2", "1", api.OK},
		{"1 11 sell 0 10 2", "", api.ErrMode},
	})
	checkShow(t, m, "1999+0 100+0 100+0;1999+0 100+0 98+2;"+emptyAccount+";"+emptyAccount+";0;m;u1S1@10x2")
}
