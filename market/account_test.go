package market_test

import (
	"testing"

	"market/api"
	"market/market"
)

func TestPayAndDraw(t *testing.T) {
	m := market.New()
	play(t, m, []step{
		{"0 1 pay 1", "", api.OK},
		{"0 2 pay 99", "", api.OK},
		{"1 1 draw 1", "", api.ErrFunds},
		{"0 3 draw 101", "", api.ErrFunds},
		{"0 4 draw 40", "", api.OK},
		{"0 5 draw 61", "", api.ErrFunds},
	})
	checkShow(t, m, "60+0 0+0 0+0;"+emptyAccount+";"+emptyAccount+";"+emptyAccount+";0;u;u")
	play(t, m, []step{
		{"0 6 draw 60", "", api.OK},
		{"0 7 draw 1", "", api.ErrFunds},
	})
	checkShow(t, m, emptyMarket)
}

func TestCashOfAllTogetherIsBounded(t *testing.T) {
	m := market.New()
	play(t, m, []step{
		{"0 1 pay 9999", "", api.OK},
		{"0 2 pay 1", "", api.ErrMax},
		{"1 1 pay 1", "", api.ErrMax},
		{"0 3 draw 6", "", api.OK},
		{"1 2 pay 1", "", api.OK},
		{"2 1 pay 2", "", api.OK},
		{"3 1 pay 4", "", api.ErrMax},
		{"3 2 pay 9999", "", api.ErrMax},
		{"3 3 pay 3", "", api.OK},
		{"3 4 pay 1", "", api.ErrMax},
	})
	checkShow(t, m, "9993+0 0+0 0+0;1+0 0+0 0+0;2+0 0+0 0+0;3+0 0+0 0+0;0;u;u")
}

func TestHeldCashCountsWithTheCashOfAll(t *testing.T) {
	m := market.New()
	play(t, m, []step{
		{"0 1 pay 1000", "", api.OK},
		{"0 2 buy 0 50 20", "0", api.OK},
		{"1 1 pay 9000", "", api.ErrMax},
		{"1 2 pay 8999", "", api.OK},
		{"1 3 buy 1 99 20", "0", api.OK},
		{"2 1 pay 1", "", api.ErrMax},
		{"0 3 pay 1", "", api.ErrMax},
		{"0 4 draw 1", "", api.ErrFunds},
		{"1 4 draw 7020", "", api.ErrFunds},
		{"1 5 draw 7019", "", api.OK},
		{"2 2 pay 7020", "", api.ErrMax},
		{"2 3 pay 7019", "", api.OK},
	})
	checkShow(t, m, "0+1000 0+0 0+0;0+1980 0+0 0+0;7019+0 0+0 0+0;"+emptyAccount+";0;u0B0@50x20;u0B1@99x20")
}

func TestBringAndFetch(t *testing.T) {
	m := market.New()
	play(t, m, []step{
		{"2 1 bring 0 30", "", api.OK},
		{"2 2 bring 1 5", "", api.OK},
		{"1 1 fetch 0 1", "", api.ErrFunds},
		{"2 3 fetch 1 6", "", api.ErrFunds},
		{"2 4 fetch 0 31", "", api.ErrFunds},
		{"2 5 fetch 0 29", "", api.OK},
		{"2 6 fetch 0 2", "", api.ErrFunds},
		{"2 7 bring 1 10", "", api.OK},
	})
	checkShow(t, m, emptyAccount+";"+emptyAccount+";0+0 1+0 15+0;"+emptyAccount+";0;u;u")
	play(t, m, []step{
		{"2 8 fetch 0 1", "", api.OK},
		{"2 9 fetch 1 15", "", api.OK},
		{"2 10 fetch 0 1", "", api.ErrFunds},
		{"2 11 fetch 1 1", "", api.ErrFunds},
	})
	checkShow(t, m, emptyMarket)
}

func TestSlotsOfEachVoyageAreBounded(t *testing.T) {
	m := market.New()
	play(t, m, []step{
		{"0 1 bring 0 999", "", api.OK},
		{"0 2 bring 0 1", "", api.ErrMax},
		{"1 1 bring 0 1", "", api.ErrMax},
		{"1 2 bring 1 990", "", api.OK},
		{"2 1 bring 1 10", "", api.ErrMax},
		{"2 2 bring 1 9", "", api.OK},
		{"3 1 bring 1 1", "", api.ErrMax},
		{"0 3 fetch 0 3", "", api.OK},
		{"3 2 bring 0 4", "", api.ErrMax},
		{"3 3 bring 0 3", "", api.OK},
		{"3 4 bring 1 3", "", api.ErrMax},
		{"3 5 pay 9999", "", api.OK},
	})
	checkShow(t, m, "0+0 996+0 0+0;0+0 0+0 990+0;0+0 0+0 9+0;9999+0 3+0 0+0;0;u;u")
}

func TestHeldSlotsCountWithTheSlotsOfTheVoyage(t *testing.T) {
	m := market.New()
	play(t, m, []step{
		{"0 1 bring 0 20", "", api.OK},
		{"0 2 sell 0 7 20", "0", api.OK},
		{"0 3 fetch 0 1", "", api.ErrFunds},
		{"1 1 bring 0 980", "", api.ErrMax},
		{"1 2 bring 0 979", "", api.OK},
		{"1 3 sell 0 7 19", "1", api.OK},
		{"2 1 bring 0 1", "", api.ErrMax},
		{"1 4 fetch 0 961", "", api.ErrFunds},
		{"1 5 fetch 0 960", "", api.OK},
		{"2 2 bring 0 961", "", api.ErrMax},
		{"2 3 bring 0 960", "", api.OK},
	})
	checkShow(t, m, "0+0 0+20 0+0;0+0 0+19 0+0;0+0 960+0 0+0;"+emptyAccount+";0;u0S0@7x20,1S1@7x19;u")
}
