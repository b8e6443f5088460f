package market_test

import (
	"fmt"
	"math"
	"reflect"
	"strings"
	"testing"

	"market/api"
	"market/market"
)

// batch reads orders: B or S, a price, x, a quantity.
func batch(t *testing.T, text string) []api.Order {
	t.Helper()
	orders := []api.Order{}
	for _, word := range strings.Fields(text) {
		var o api.Order
		var side rune
		if _, err := fmt.Sscanf(word, "%c%dx%d", &side, &o.Price, &o.Qty); err != nil {
			t.Fatalf("%q is no order: %v", word, err)
		}
		o.Sell = side == 'S'
		orders = append(orders, o)
	}
	return orders
}

// fixedNumbers is a row of numbers that a rule gives, the same in every run.
type fixedNumbers struct{ state uint32 }

// next gives a number from 0 to n - 1.
func (r *fixedNumbers) next(n int) int {
	r.state = r.state*1664525 + 1013904223
	return int(r.state>>8) % n
}

// rule is one of the two ways to clear a batch.
type rule struct {
	name  string
	clear func(orders []api.Order) outcome
}

// outcome is all that a clearing answers.
type outcome struct {
	gets     []int
	pay, get int
	errno    api.Errno
}

var uniform = rule{"Uniform", func(orders []api.Order) outcome {
	gets, price, errno := market.Uniform(orders)
	return outcome{gets, price, price, errno}
}}

var mcafee = rule{"McAfee", func(orders []api.Order) outcome {
	gets, pay, get, errno := market.McAfee(orders)
	return outcome{gets, pay, get, errno}
}}

// checkRefused wants ErrOrders, and all else nil or 0.
func checkRefused(t *testing.T, r rule, what string, orders []api.Order) {
	t.Helper()
	got := r.clear(orders)
	if want := (outcome{errno: api.ErrOrders}); !reflect.DeepEqual(got, want) {
		t.Errorf("%s: %s = %v; want %v", what, r.name, got, want)
	}
}

// checkRefusedAnywhere tries the wrong order alone, and before, between and behind good ones.
func checkRefusedAnywhere(t *testing.T, r rule, bad string) {
	t.Helper()
	for _, text := range []string{bad, bad + " B60x1 S40x1", "B60x1 " + bad + " S40x1", "B60x1 S40x1 " + bad} {
		checkRefused(t, r, text, batch(t, text))
	}
}

func checkRefusesWrongOrders(t *testing.T, r rule) {
	t.Helper()
	for _, bad := range []string{"B0x1", "S0x1", "B-1x1", "S-50x1", "B100x1", "S100x1", "B50x0", "S50x0", "B50x-1", "S50x-20", "B50x21", "S50x21", "B0x0"} {
		checkRefusedAnywhere(t, r, bad)
	}
	for _, n := range []int{math.MinInt, math.MaxInt, math.MinInt32, math.MaxInt32, 256 + 1, 1<<32 + 1} {
		for _, sell := range []bool{false, true} {
			checkRefused(t, r, fmt.Sprint("price ", n), []api.Order{{Sell: sell, Price: n, Qty: 1}})
			checkRefused(t, r, fmt.Sprint("quantity ", n), []api.Order{{Sell: sell, Price: 50, Qty: n}})
		}
	}
}

func checkRefusesManyOrders(t *testing.T, r rule) {
	t.Helper()
	checkRefused(t, r, "13 orders", batch(t, strings.Repeat("B50x1 S50x1 ", 6)+"S50x1"))
	checkRefused(t, r, "13 to buy", batch(t, strings.Repeat("B50x1 ", 13)))
	checkRefused(t, r, "13 to sell", batch(t, strings.Repeat("S50x1 ", 13)))
	checkRefused(t, r, "100000 orders", batch(t, strings.Repeat("B50x1 S50x1 ", 50000)))
	checkRefused(t, r, "100000 empty ones", make([]api.Order, 100000))
}

// checkLeavesOrdersAlone wants neither the orders nor the spare room behind them written into.
func checkLeavesOrdersAlone(t *testing.T, r rule, texts []string) {
	t.Helper()
	for _, text := range texts {
		orders := batch(t, text)
		n := len(orders)
		room := append(append([]api.Order{}, orders...), batch(t, "S7x1 B8x8 S9x9")...)
		before := append([]api.Order{}, room...)
		r.clear(room[:n])
		if !reflect.DeepEqual(room, before) {
			t.Errorf("%s(%s) left %v of %v", r.name, text, room, before)
		}
	}
}

// checkKeepsNothing wants fresh lists, and answers that hang on a call's own orders alone.
func checkKeepsNothing(t *testing.T, r rule, texts []string) {
	t.Helper()
	for _, text := range texts {
		orders := batch(t, text)
		first := r.clear(orders)
		want := first
		want.gets = append([]int{}, first.gets...)
		for i := range first.gets {
			first.gets[i] = 77
		}
		r.clear(batch(t, "S1x1 B99x1 B99x1 S2x1"))
		second := r.clear(orders)
		orders[0] = api.Order{Sell: true, Price: 99, Qty: 1}
		if !reflect.DeepEqual(second, want) {
			t.Errorf("%s(%s) = %v; the first time %v", r.name, text, second, want)
		}
	}
}
