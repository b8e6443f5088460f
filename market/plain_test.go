package market_test

import (
	"fmt"
	"strings"
	"testing"

	"market/api"
	"market/market"
)

// plainMarket is a second reading of P7 to P13, without close. Names of what is held or free are
// like "0 cash", "1 slots 0".
type plainMarket struct {
	free, held map[string]int
	orders     map[int][]plainOrder
	came       map[int]int
	mode       map[int]string
	last       map[int]int
	answer     map[int]string
	errno      map[int]api.Errno
}

type plainOrder struct {
	number, client, price, qty int
	side, pot                  string
	needs                      int
}

func newPlainMarket() *plainMarket {
	return &plainMarket{
		free: map[string]int{}, held: map[string]int{},
		orders: map[int][]plainOrder{}, came: map[int]int{}, mode: map[int]string{0: "u", 1: "u"},
		last: map[int]int{}, answer: map[int]string{}, errno: map[int]api.Errno{},
	}
}

func (p *plainMarket) do(command string) (string, api.Errno) {
	if len(command) > api.MaxCommand || !commandForm.MatchString(command) {
		return "", api.ErrForm
	}
	var client, number int
	var word string
	fmt.Sscan(command, &client, &number, &word)
	switch {
	case number == p.last[client]:
		return p.answer[client], p.errno[client]
	case number < p.last[client]:
		return "", api.ErrOld
	case number > p.last[client]+1:
		return "", api.ErrGap
	}
	p.last[client] = number
	p.answer[client], p.errno[client] = p.obey(client, word, strings.Fields(command)[3:])
	return p.answer[client], p.errno[client]
}

func (p *plainMarket) obey(client int, word string, rest []string) (string, api.Errno) {
	var n [3]int
	for i, text := range rest {
		fmt.Sscan(text, &n[i])
	}
	cash := fmt.Sprint(client, " cash")
	slots := fmt.Sprint(client, " slots ", n[0])
	switch word {
	case "pay":
		return "", p.grow(cash, n[0], "cash", api.MaxCash)
	case "draw":
		return "", p.shrink(cash, n[0])
	case "bring":
		return "", p.grow(slots, n[1], fmt.Sprint("slots ", n[0]), api.MaxSlots)
	case "fetch":
		return "", p.shrink(slots, n[1])
	case "buy":
		return p.place(n[0], plainOrder{client: client, price: n[1], qty: n[2], side: "B", pot: cash, needs: n[1] * n[2]})
	case "sell":
		return p.place(n[0], plainOrder{client: client, price: n[1], qty: n[2], side: "S", pot: slots, needs: n[2]})
	case "drop":
		return "", p.drop(client, n[0], n[1])
	}
	if len(p.orders[n[0]]) > 0 {
		return "", api.ErrBusy
	}
	p.mode[n[0]] = rest[1]
	return "", api.OK
}

func (p *plainMarket) grow(pot string, n int, kind string, most int) api.Errno {
	all := n
	for c := range api.Clients {
		each := fmt.Sprint(c, " ", kind)
		all += p.free[each] + p.held[each]
	}
	if all > most {
		return api.ErrMax
	}
	p.free[pot] += n
	return api.OK
}

func (p *plainMarket) shrink(pot string, n int) api.Errno {
	if p.free[pot] < n {
		return api.ErrFunds
	}
	p.free[pot] -= n
	return api.OK
}

func (p *plainMarket) place(voyage int, o plainOrder) (string, api.Errno) {
	if p.mode[voyage] == "m" && o.qty != 1 {
		return "", api.ErrMode
	}
	for _, other := range p.orders[voyage] {
		if p.mode[voyage] == "m" && other.client == o.client {
			return "", api.ErrMode
		}
	}
	if p.came[voyage] == api.MaxOrders {
		return "", api.ErrFull
	}
	if p.free[o.pot] < o.needs {
		return "", api.ErrFunds
	}
	p.free[o.pot] -= o.needs
	p.held[o.pot] += o.needs
	o.number = p.came[voyage]
	p.came[voyage]++
	p.orders[voyage] = append(p.orders[voyage], o)
	return fmt.Sprint(o.number), api.OK
}

func (p *plainMarket) drop(client, voyage, number int) api.Errno {
	for i, o := range p.orders[voyage] {
		if o.number == number && o.client == client {
			p.held[o.pot] -= o.needs
			p.free[o.pot] += o.needs
			p.orders[voyage] = append(append([]plainOrder{}, p.orders[voyage][:i]...), p.orders[voyage][i+1:]...)
			return api.OK
		}
	}
	return api.ErrOrder
}

func (p *plainMarket) show() string {
	var parts []string
	for c := range api.Clients {
		var pots []string
		for _, kind := range []string{"cash", "slots 0", "slots 1"} {
			pot := fmt.Sprint(c, " ", kind)
			pots = append(pots, fmt.Sprintf("%d+%d", p.free[pot], p.held[pot]))
		}
		parts = append(parts, strings.Join(pots, " "))
	}
	parts = append(parts, "0")
	for v := range api.Voyages {
		var orders []string
		for _, o := range p.orders[v] {
			orders = append(orders, fmt.Sprintf("%d%s%d@%dx%d", o.number, o.side, o.client, o.price, o.qty))
		}
		parts = append(parts, p.mode[v]+strings.Join(orders, ","))
	}
	return strings.Join(parts, ";")
}

// someCommand makes a command that is mostly the client's next request, and mostly one that can be done.
func someCommand(numbers *fixedNumbers, last map[int]int) string {
	client := numbers.next(api.Clients)
	request := last[client] + 1
	switch numbers.next(12) {
	case 0:
		request--
	case 1:
		request += numbers.next(5) - 2
	}
	if numbers.next(50) == 0 {
		client = numbers.next(6) - 1
	}
	voyage := numbers.next(2)
	if numbers.next(60) == 0 {
		voyage = 2
	}
	return fmt.Sprintf("%d %d %s", client, request, someTask(numbers, voyage))
}

func someTask(numbers *fixedNumbers, voyage int) string {
	price, qty := 1+numbers.next(30), 1+numbers.next(4)
	if numbers.next(10) == 0 {
		price, qty = numbers.next(102), numbers.next(23)
	}
	switch numbers.next(11) {
	case 0:
		return fmt.Sprint("pay ", numbers.next(300))
	case 1:
		return fmt.Sprint("pay ", numbers.next(10100))
	case 2:
		return fmt.Sprint("draw ", numbers.next(400))
	case 3:
		return fmt.Sprintf("bring %d %d", voyage, numbers.next(20))
	case 4:
		return fmt.Sprintf("bring %d %d", voyage, numbers.next(1010))
	case 5:
		return fmt.Sprintf("fetch %d %d", voyage, numbers.next(30))
	case 6:
		return fmt.Sprintf("buy %d %d %d", voyage, price, qty)
	case 7:
		return fmt.Sprintf("sell %d %d %d", voyage, price, qty)
	case 8, 9:
		return fmt.Sprintf("drop %d %d", voyage, numbers.next(13))
	}
	return fmt.Sprintf("mode %d %c", voyage, "uuummmx"[numbers.next(7)])
}

func TestMarketAgreesWithAPlainSecondReading(t *testing.T) {
	numbers := fixedNumbers{1}
	seen := map[api.Errno]int{}
	for round := range 300 {
		m, plain := market.New(), newPlainMarket()
		for range 300 {
			command := someCommand(&numbers, plain.last)
			wantAnswer, wantErrno := plain.do(command)
			answer, errno := m.Do(command)
			if answer != wantAnswer || errno != wantErrno {
				t.Fatalf("round %d: Do(%q) = %q, %d; want %q, %d; the market: %s", round, command, answer, errno, wantAnswer, wantErrno, m.Show())
			}
			seen[errno]++
			if got, want := m.Show(), plain.show(); got != want {
				t.Fatalf("round %d: behind %q Show() = %s; want %s", round, command, got, want)
			}
			for c := range api.Clients {
				if m.Last(c) != plain.last[c] {
					t.Fatalf("round %d: behind %q Last(%d) = %d; want %d", round, command, c, m.Last(c), plain.last[c])
				}
			}
		}
	}
	for _, errno := range []api.Errno{api.OK, api.ErrForm, api.ErrOld, api.ErrGap, api.ErrFunds, api.ErrMax, api.ErrFull, api.ErrMode, api.ErrBusy, api.ErrOrder} {
		if seen[errno] < 100 {
			t.Errorf("%d commands were answered %d: too few to tell", seen[errno], errno)
		}
	}
}
