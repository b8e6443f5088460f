package market_test

import (
	"reflect"
	"sort"
	"strings"
	"testing"

	"market/api"
	"market/market"
)

// singles reads orders for one slot each: B or S, and a price.
func singles(t *testing.T, text string) []api.Order {
	t.Helper()
	full := ""
	for _, word := range strings.Fields(text) {
		full += word + "x1 "
	}
	return batch(t, full)
}

type reduction struct {
	orders   string
	gets     []int
	pay, get int
}

func checkReductions(t *testing.T, rows []reduction) {
	t.Helper()
	for _, row := range rows {
		gets, pay, get, errno := market.McAfee(singles(t, row.orders))
		if errno != api.OK || pay != row.pay || get != row.get || !reflect.DeepEqual(gets, row.gets) {
			t.Errorf("McAfee(%s) = %v, %d, %d, %d; want %v, %d, %d, OK", row.orders, gets, pay, get, errno, row.gets, row.pay, row.get)
		}
	}
}

// The rows of McAfee under 'Examples'.
func TestMcAfeeExamples(t *testing.T) {
	checkReductions(t, []reduction{
		{"B60 S40", []int{1, 1}, 50, 50},
		{"B90 S60", []int{0, 0}, 0, 0},
		{"B60 B50 S40 S45", []int{1, 1, 1, 1}, 50, 50},
		{"B60 B50 B44 S40 S45 S48", []int{1, 1, 0, 1, 1, 0}, 46, 46},
		{"B60 B50 B20 S40 S45 S99", []int{1, 0, 0, 1, 0, 0}, 50, 45},
	})
	checkRefused(t, mcafee, "B50x2", batch(t, "B50x2"))
}

// P1, P3, P6: what is no batch is refused, and so is a quantity that is not 1.
func TestMcAfeeRefusesWrongOrders(t *testing.T) {
	checkRefusesWrongOrders(t, mcafee)
	for _, bad := range []string{"B50x2", "S50x2", "B50x3", "S50x19", "B50x20", "S50x20"} {
		checkRefusedAnywhere(t, mcafee, bad)
	}
}

// P3, P6: a batch has MaxOrders orders at most.
func TestMcAfeeCountsOrders(t *testing.T) {
	checkReductions(t, []reduction{
		{strings.Repeat("B50 S50 ", 6), []int{1, 1, 1, 1, 1, 1, 1, 1, 1, 1, 1, 1}, 50, 50},
	})
	checkRefusesManyOrders(t, mcafee)
}

// P6: without both sides, or where they do not meet, nothing is traded.
func TestMcAfeeNoPair(t *testing.T) {
	checkReductions(t, []reduction{
		{"", []int{}, 0, 0},
		{"B50", []int{0}, 0, 0},
		{"S50", []int{0}, 0, 0},
		{"B99", []int{0}, 0, 0},
		{"S1", []int{0}, 0, 0},
		{"B49 S50", []int{0, 0}, 0, 0},
		{"B1 S2", []int{0, 0}, 0, 0},
		{"S99 B98", []int{0, 0}, 0, 0},
		{"S30 B10 S20 B19", []int{0, 0, 0, 0}, 0, 0},
		{strings.Repeat("B99 ", 12), make([]int, 12), 0, 0},
		{strings.Repeat("S1 ", 12), make([]int, 12), 0, 0},
	})
	gets, pay, get, errno := market.McAfee(nil)
	if len(gets) != 0 || pay != 0 || get != 0 || errno != api.OK {
		t.Errorf("McAfee(nil) = %v, %d, %d, %d; want no numbers, 0, 0, OK", gets, pay, get, errno)
	}
}

// P6: all k pairs trade at p, at the edges of where p may lie and of how it comes about.
func TestMcAfeeAllPairsTrade(t *testing.T) {
	checkReductions(t, []reduction{
		// Nobody is behind the k-th on either side: p is half of 0 + 100.
		{"B50 S50", []int{1, 1}, 50, 50},
		{"B50 S1", []int{1, 1}, 50, 50},
		{"B99 S50", []int{1, 1}, 50, 50},
		{"B99 S1", []int{1, 1}, 50, 50},
		// Only a buyer, or only a seller, is behind.
		{"B90 B20 S40", []int{1, 0, 1}, 60, 60},
		{"B30 S10 S40", []int{1, 1, 0}, 20, 20},
		// p is the k-th seller's price, or the k-th buyer's, to the unit.
		{"B70 B20 S60", []int{1, 0, 1}, 60, 60},
		{"B60 B20 S40", []int{1, 0, 1}, 60, 60},
		{"B30 S15 S30", []int{1, 1, 0}, 15, 15},
		{"B15 S10 S30", []int{1, 1, 0}, 15, 15},
		// Half of an odd sum is rounded down, and then tried.
		{"B60 B21 S40", []int{1, 0, 1}, 60, 60},
		{"B60 S40 S99", []int{1, 1, 0}, 49, 49},
		{"B80 B70 B60 B31 S10 S20 S30 S32", []int{1, 1, 1, 0, 1, 1, 1, 0}, 31, 31},
		// The prices of the first k - 1 do not count.
		{"B99 B50 S1 S50", []int{1, 1, 1, 1}, 50, 50},
		{"B80 B70 B60 B50 S10 S20 S30 S40", []int{1, 1, 1, 1, 1, 1, 1, 1}, 50, 50},
		// A pair of one and the same price is a pair.
		{"B60 B45 S40 S45 B44 S46", []int{1, 1, 1, 1, 0, 0}, 45, 45},
	})
}

// P6: where p does not fit the k-th pair, it does not trade, and sets the prices.
func TestMcAfeeLastPairDropped(t *testing.T) {
	checkReductions(t, []reduction{
		// p is one too little or one too great.
		{"B90 B70 B20 S50 S61", []int{1, 0, 0, 1, 0}, 70, 61},
		{"B90 B59 B20 S30 S40", []int{1, 0, 0, 1, 0}, 59, 40},
		{"B60 B30 S10 S16 S30", []int{1, 0, 1, 0, 0}, 30, 16},
		{"B60 B14 S5 S10 S30", []int{1, 0, 1, 0, 0}, 14, 10},
		// An odd sum that would fit, were it not rounded down.
		{"B90 B70 B21 S50 S61", []int{1, 0, 0, 1, 0}, 70, 61},
		// Nobody is behind on one side, or on both.
		{"B60 B60 B60 S20 S30", []int{1, 0, 0, 1, 0}, 60, 30},
		{"B60 B40 S30 S20", []int{1, 0, 0, 1}, 40, 30},
		{"B90 B80 S70 S60", []int{1, 0, 0, 1}, 80, 70},
		{"B30 B30 S1 S2 S3", []int{1, 0, 1, 0, 0}, 30, 2},
		// More pairs.
		{"B9 B8 B7 S4 S5 S6", []int{1, 1, 0, 1, 1, 0}, 7, 6},
		{strings.Repeat("B99 S98 ", 6), []int{1, 1, 1, 1, 1, 1, 1, 1, 1, 1, 0, 0}, 99, 98},
	})
}

// P6: if the only pair is dropped, nothing is traded.
func TestMcAfeeOnlyPairDropped(t *testing.T) {
	checkReductions(t, []reduction{
		{"B49 S1", []int{0, 0}, 0, 0},
		{"B99 S51", []int{0, 0}, 0, 0},
		{"B30 S20", []int{0, 0}, 0, 0},
		{"B1 S1", []int{0, 0}, 0, 0},
		{"B99 S99", []int{0, 0}, 0, 0},
		{"B60 S20 S20 S20", []int{0, 0, 0, 0}, 0, 0},
		{"B60 B60 S40", []int{0, 0, 0}, 0, 0},
	})
}

// P6: the rows go by the price, and of the same price by who came first.
func TestMcAfeeRows(t *testing.T) {
	checkReductions(t, []reduction{
		{"S45 B50 S40 B60", []int{1, 1, 1, 1}, 50, 50},
		{"B20 S99 B50 S45 B60 S40", []int{0, 0, 0, 0, 1, 1}, 50, 45},
		{"S48 S45 S40 B44 B50 B60", []int{0, 1, 1, 0, 1, 1}, 46, 46},
		{"B50 B50 B50 S50 S50", []int{1, 0, 0, 1, 0}, 50, 50},
		{"S50 S50 S50 B50 B50", []int{1, 0, 0, 1, 0}, 50, 50},
		{"B40 B60 B60 B60 S45 S20 S20 S20", []int{0, 1, 1, 1, 0, 1, 1, 1}, 42, 42},
		{"B60 B70 B60 S41 S41 S40 S42", []int{1, 1, 0, 1, 0, 1, 0}, 60, 41},
	})
}

// P2: nothing that is handed in is written into or kept.
func TestMcAfeeLeavesOrdersAlone(t *testing.T) {
	texts := []string{"", "B50x1 B60x1 S45x1 S40x1", "S50x1 S50x1 B50x1 B60x1", "B49x1 S50x1", "B50x1 S50x2", strings.Repeat("B50x1 ", 13)}
	checkLeavesOrdersAlone(t, mcafee, texts)
	checkKeepsNothing(t, mcafee, []string{"B60x1 S40x1", "B60x1 B50x1 B20x1 S40x1 S45x1 S99x1", "B90x1 S60x1", "B49x1 S50x1"})
}

// plainRow puts one side's orders into a row, as P6 says it: their places in the batch.
func plainRow(orders []api.Order, sell bool) []int {
	var row []int
	for i, o := range orders {
		if o.Sell == sell {
			row = append(row, i)
		}
	}
	sort.SliceStable(row, func(a, b int) bool {
		if sell {
			return orders[row[a]].Price < orders[row[b]].Price
		}
		return orders[row[a]].Price > orders[row[b]].Price
	})
	return row
}

// plainMcAfee counts from 1 on, as P6 does.
func plainMcAfee(orders []api.Order) ([]int, int, int) {
	buyers, sellers := plainRow(orders, false), plainRow(orders, true)
	buyer := func(n int) int { return orders[buyers[n-1]].Price }
	seller := func(n int) int { return orders[sellers[n-1]].Price }
	gets := make([]int, len(orders))
	k := 0
	for n := 1; n <= min(len(buyers), len(sellers)); n++ {
		if buyer(n) >= seller(n) {
			k = n
		}
	}
	if k == 0 {
		return gets, 0, 0
	}
	b, s := 0, 100
	if len(buyers) > k {
		b = buyer(k + 1)
	}
	if len(sellers) > k {
		s = seller(k + 1)
	}
	trading, pay, get := k, (b+s)/2, (b+s)/2
	if pay < seller(k) || pay > buyer(k) {
		trading, pay, get = k-1, buyer(k), seller(k)
	}
	if trading == 0 {
		return gets, 0, 0
	}
	for n := 0; n < trading; n++ {
		gets[buyers[n]] = 1
		gets[sellers[n]] = 1
	}
	return gets, pay, get
}

func checkAgainstPlainMcAfee(t *testing.T, orders []api.Order) {
	t.Helper()
	gets, pay, get, errno := market.McAfee(orders)
	wantGets, wantPay, wantGet := plainMcAfee(orders)
	if errno != api.OK || pay != wantPay || get != wantGet || !reflect.DeepEqual(gets, wantGets) {
		t.Fatalf("McAfee(%v) = %v, %d, %d, %d; want %v, %d, %d, OK", orders, gets, pay, get, errno, wantGets, wantPay, wantGet)
	}
}

// P6: every batch of up to five orders of a few prices.
func TestMcAfeeSmallBatches(t *testing.T) {
	prices := []int{1, 49, 50, 51, 99}
	var grow func(orders []api.Order)
	grow = func(orders []api.Order) {
		checkAgainstPlainMcAfee(t, orders)
		if len(orders) == 5 {
			return
		}
		for _, price := range prices {
			for _, sell := range []bool{false, true} {
				longer := append(append([]api.Order{}, orders...), api.Order{Sell: sell, Price: price, Qty: 1})
				grow(longer)
			}
		}
	}
	grow([]api.Order{})
}

// P6: every pair of prices, alone and with one more order on each side.
func TestMcAfeeEveryPair(t *testing.T) {
	for buyer := 1; buyer <= api.MaxPrice; buyer++ {
		for seller := 1; seller <= api.MaxPrice; seller++ {
			pair := []api.Order{{Sell: false, Price: buyer, Qty: 1}, {Sell: true, Price: seller, Qty: 1}}
			checkAgainstPlainMcAfee(t, pair)
			checkAgainstPlainMcAfee(t, append(pair, api.Order{Sell: false, Price: 41, Qty: 1}))
			checkAgainstPlainMcAfee(t, append(pair, api.Order{Sell: true, Price: 64, Qty: 1}))
			checkAgainstPlainMcAfee(t, append(pair, api.Order{Sell: true, Price: 64, Qty: 1}, api.Order{Sell: false, Price: 41, Qty: 1}))
		}
	}
}

// P6: many greater batches, of numbers that a fixed rule gives.
func TestMcAfeeGreaterBatches(t *testing.T) {
	numbers := fixedNumbers{1}
	for round := 0; round < 20000; round++ {
		// Few prices make ties, and a low and a high range make pairs, and p that fits or does not.
		prices := []int{3, 10, 40, api.MaxPrice}[numbers.next(4)]
		lowest := 1 + numbers.next(api.MaxPrice-prices+1)
		orders := make([]api.Order, numbers.next(api.MaxOrders+1))
		for i := range orders {
			orders[i] = api.Order{Sell: numbers.next(2) == 1, Price: lowest + numbers.next(prices), Qty: 1}
		}
		checkAgainstPlainMcAfee(t, orders)
	}
}
