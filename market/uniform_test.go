package market_test

import (
	"reflect"
	"sort"
	"strings"
	"testing"

	"market/api"
	"market/market"
)

type clearing struct {
	orders string
	gets   []int
	price  int
}

func checkClearings(t *testing.T, rows []clearing) {
	t.Helper()
	for _, row := range rows {
		gets, price, errno := market.Uniform(batch(t, row.orders))
		if errno != api.OK || price != row.price || !reflect.DeepEqual(gets, row.gets) {
			t.Errorf("Uniform(%s) = %v, %d, %d; want %v, %d, OK", row.orders, gets, price, errno, row.gets, row.price)
		}
	}
}

// The rows of Uniform under 'Examples'.
func TestUniformExamples(t *testing.T) {
	checkClearings(t, []clearing{
		{"B49x3 S50x3", []int{0, 0}, 0},
		{"B60x3 S40x3", []int{3, 3}, 40},
		{"B60x3 S40x3 B50x2", []int{3, 3, 0}, 51},
		{"B60x5 B55x5 S40x4 S50x4", []int{4, 4, 4, 4}, 50},
		{"B60x5 B55x5 S40x5 S57x9", []int{5, 0, 5, 0}, 56},
		{"B50x3 B50x2 S50x4", []int{2, 2, 4}, 50},
		{"B50x2 B50x2 B50x2 S50x5", []int{2, 2, 1, 5}, 50},
		{"S50x7 S50x2 S50x2 B50x6", []int{4, 1, 1, 6}, 50},
		{"B60x10 B50x5 B40x3 S45x12", []int{8, 4, 0, 12}, 45},
	})
	checkRefused(t, uniform, "B50x0", batch(t, "B50x0"))
}

// P1, P3: what is no batch is refused.
func TestUniformRefusesWrongOrders(t *testing.T) {
	checkRefusesWrongOrders(t, uniform)
}

// P3: a batch has MaxOrders orders at most.
func TestUniformCountsOrders(t *testing.T) {
	checkClearings(t, []clearing{
		{strings.Repeat("B50x1 S50x1 ", 6), []int{1, 1, 1, 1, 1, 1, 1, 1, 1, 1, 1, 1}, 50},
	})
	checkRefusesManyOrders(t, uniform)
}

// P3: the price, at the edges of what orders may ask and where levels are equally good.
func TestUniformPrice(t *testing.T) {
	checkClearings(t, []clearing{
		{"B1x1 S1x1", []int{1, 1}, 1},
		{"B99x1 S99x1", []int{1, 1}, 99},
		{"B99x20 S1x20", []int{20, 20}, 1},
		{"S1x20 B99x20", []int{20, 20}, 1},
		{"B50x3 S50x3", []int{3, 3}, 50},
		// Most slots go ahead of sides that are least apart: 4 with 4 and 8, not 3 with 3 and 3.
		{"B60x3 S30x3 B40x1 S40x5", []int{3, 2, 1, 2}, 40},
		// Least apart goes ahead of the least price, on either side.
		{"B60x3 S40x3 B50x2", []int{3, 3, 0}, 51},
		{"B60x3 S40x2 S50x1 B45x9", []int{3, 2, 1, 0}, 50},
		{"B60x4 S40x3 S70x9 B41x1", []int{3, 3, 0, 0}, 42},
		// More on offer at a higher price does not draw the price up.
		{"B60x3 S40x3 S50x2", []int{3, 3, 0}, 40},
		// One apart either way (4 and 3 up to 50, 3 and 4 from 51 on): the least price.
		{"B60x3 B50x1 S40x3 S51x1", []int{2, 1, 3, 0}, 40},
		// One apart either way, but 4 are traded at 50 and 3 below.
		{"B60x4 S40x3 S50x2", []int{4, 2, 2}, 50},
	})
}

// P4: without both sides, or where they do not meet, nothing is traded.
func TestUniformNoTrade(t *testing.T) {
	checkClearings(t, []clearing{
		{"", []int{}, 0},
		{"B50x3", []int{0}, 0},
		{"S50x3", []int{0}, 0},
		{"B1x1", []int{0}, 0},
		{"S99x20", []int{0}, 0},
		{"B98x20 S99x20", []int{0, 0}, 0},
		{"B1x20 S2x20", []int{0, 0}, 0},
		{"B99x20 B1x1 B50x7", []int{0, 0, 0}, 0},
		{"S30x2 B10x2 S20x2 B19x2", []int{0, 0, 0, 0}, 0},
		{strings.Repeat("S1x20 ", 12), make([]int, 12), 0},
	})
	gets, price, errno := market.Uniform(nil)
	if len(gets) != 0 || price != 0 || errno != api.OK {
		t.Errorf("Uniform(nil) = %v, %d, %d; want no numbers, 0, OK", gets, price, errno)
	}
}

// P5: the shares on the side that has more.
func TestUniformShares(t *testing.T) {
	checkClearings(t, []clearing{
		// As much was lost for all: who came first, on either side.
		{"B50x1 B50x1 B50x1 S50x2", []int{1, 1, 0, 2}, 50},
		{"S50x1 S50x1 B50x2 S50x1", []int{1, 1, 2, 0}, 50},
		{"B50x6 B50x6 B50x6 B50x6 B50x6 S50x13", []int{3, 3, 3, 2, 2, 13}, 50},
		// The most was lost for one that came later.
		{"S50x7 S50x2 S50x2 B50x6", []int{4, 1, 1, 6}, 50},
		{"B50x4 B50x1 S50x3", []int{2, 1, 3}, 50},
		// What was lost goes by the part of a slot, not by the size of the order.
		{"B50x20 B50x1 B50x1 S50x11", []int{10, 1, 0, 11}, 50},
		// A better price gives no greater share, and no earlier one.
		{"B50x2 B99x2 S50x3", []int{2, 1, 3}, 50},
		// Nothing is lost: nothing is left over.
		{"B50x2 B50x4 S50x3", []int{1, 2, 3}, 50},
		// Those that are not willing neither get nor count.
		{"B49x9 B50x1 B50x3 B50x5 S50x4", []int{0, 1, 1, 2, 4}, 50},
		{"S51x20 B50x13 B50x17 B50x19 S50x20 S50x3", []int{0, 6, 8, 9, 20, 3}, 50},
		// The greatest sums.
		{strings.Repeat("B99x20 ", 11) + "S1x20", []int{2, 2, 2, 2, 2, 2, 2, 2, 2, 1, 1, 20}, 1},
		{strings.Repeat("S50x20 ", 6) + strings.Repeat("B50x20 ", 6), []int{20, 20, 20, 20, 20, 20, 20, 20, 20, 20, 20, 20}, 50},
		{strings.Repeat("S50x20 ", 11) + "B50x1", []int{1, 0, 0, 0, 0, 0, 0, 0, 0, 0, 0, 1}, 50},
	})
}

// P2: nothing that is handed in is written into or kept.
func TestUniformLeavesOrdersAlone(t *testing.T) {
	texts := []string{"", "B50x3 B50x2 S50x4", "B60x3 S40x3 B50x2", "B49x3 S50x3", "B50x3 S50x0", strings.Repeat("B50x1 ", 13)}
	checkLeavesOrdersAlone(t, uniform, texts)
	checkKeepsNothing(t, uniform, []string{"B50x3 B50x2 S50x4", "B49x3 S50x3"})
}

// sum adds up the quantities of one side's orders that are willing at p.
func sum(orders []api.Order, sell bool, p int) int {
	n := 0
	for _, o := range orders {
		if o.Sell == sell && (sell && o.Price <= p || !sell && o.Price >= p) {
			n += o.Qty
		}
	}
	return n
}

// plainPrice sifts the prices three times, as P3 says it.
func plainPrice(orders []api.Order) int {
	var prices []int
	for p := 1; p <= api.MaxPrice; p++ {
		prices = append(prices, p)
	}
	lesser := func(p int) int { return -min(sum(orders, false, p), sum(orders, true, p)) }
	apart := func(p int) int {
		d, s := sum(orders, false, p), sum(orders, true, p)
		return max(d, s) - min(d, s)
	}
	return leastBy(leastBy(prices, lesser), apart)[0]
}

// leastBy keeps, in their order, the prices at which the measure is least.
func leastBy(prices []int, measure func(int) int) []int {
	var kept []int
	least := 0
	for _, p := range prices {
		m := measure(p)
		if len(kept) == 0 || m < least {
			kept, least = nil, m
		}
		if m == least {
			kept = append(kept, p)
		}
	}
	return kept
}

// plainShares gives one side's shares of v slots, as P5 says it; the other side's are 0.
func plainShares(orders []api.Order, sell bool, p, v int) []int {
	gets := make([]int, len(orders))
	total := sum(orders, sell, p)
	left := v
	var row []int
	for i, o := range orders {
		if o.Sell == sell && sum([]api.Order{o}, sell, p) > 0 {
			gets[i] = v * o.Qty / total
			left -= gets[i]
			row = append(row, i)
		}
	}
	lost := func(i int) int { return v*orders[i].Qty - gets[i]*total }
	sort.SliceStable(row, func(a, b int) bool { return lost(row[a]) > lost(row[b]) })
	for _, i := range row[:left] {
		gets[i]++
	}
	return gets
}

func plainUniform(orders []api.Order) ([]int, int) {
	p := plainPrice(orders)
	d, s := sum(orders, false, p), sum(orders, true, p)
	gets := make([]int, len(orders))
	if min(d, s) == 0 {
		return gets, 0
	}
	bought := plainShares(orders, false, p, min(d, s))
	sold := plainShares(orders, true, p, min(d, s))
	for i := range gets {
		gets[i] = bought[i] + sold[i]
	}
	return gets, p
}

func checkAgainstPlain(t *testing.T, orders []api.Order) {
	t.Helper()
	gets, price, errno := market.Uniform(orders)
	wantGets, wantPrice := plainUniform(orders)
	if errno != api.OK || price != wantPrice || !reflect.DeepEqual(gets, wantGets) {
		t.Fatalf("Uniform(%v) = %v, %d, %d; want %v, %d, OK", orders, gets, price, errno, wantGets, wantPrice)
	}
}

// P3 to P5: every batch of up to three orders of a few prices and quantities.
func TestUniformSmallBatches(t *testing.T) {
	var all []api.Order
	for _, sell := range []bool{false, true} {
		for _, price := range []int{1, 2, 50, 99} {
			for _, qty := range []int{1, 2, 5} {
				all = append(all, api.Order{Sell: sell, Price: price, Qty: qty})
			}
		}
	}
	checkAgainstPlain(t, []api.Order{})
	for _, a := range all {
		checkAgainstPlain(t, []api.Order{a})
		for _, b := range all {
			checkAgainstPlain(t, []api.Order{a, b})
			for _, c := range all {
				checkAgainstPlain(t, []api.Order{a, b, c})
			}
		}
	}
}

// P3 to P5: many greater batches, of numbers that a fixed rule gives.
func TestUniformGreaterBatches(t *testing.T) {
	numbers := fixedNumbers{1}
	for round := 0; round < 4000; round++ {
		// Few prices and quantities make ties, many make uneven shares.
		prices := []int{1, 3, 10, api.MaxPrice}[numbers.next(4)]
		qtys := []int{1, 3, api.MaxQty}[numbers.next(3)]
		orders := make([]api.Order, numbers.next(api.MaxOrders+1))
		for i := range orders {
			orders[i] = api.Order{Sell: numbers.next(2) == 1, Price: 1 + numbers.next(prices), Qty: 1 + numbers.next(qtys)}
		}
		checkAgainstPlain(t, orders)
	}
}
