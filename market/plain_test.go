package market_test

import (
	"fmt"
	"strings"
	"testing"

	"market/api"
	"market/market"
)

// plainMarket is a second reading of P7 to P17. Names of what is held or free are like "0 cash", "1 slots 0".
type plainMarket struct {
	free, held map[string]int
	house      int
	orders     map[int][]plainOrder
	came       map[int]int
	mode       map[int]string
	last       map[int]int
	answer     map[int]string
	errno      map[int]api.Errno
	log        string
}

type plainOrder struct {
	number, client, price, qty int
	side, pot                  string
	needs                      int
}

func newPlainMarket() *plainMarket {
	return &plainMarket{
		free: map[string]int{}, held: map[string]int{},
		orders: map[int][]plainOrder{}, came: map[int]int{}, mode: map[int]string{0: "u", 1: "u"},
		last: map[int]int{}, answer: map[int]string{}, errno: map[int]api.Errno{},
	}
}

func (p *plainMarket) do(command string) (string, api.Errno) {
	if len(command) > api.MaxCommand || !commandForm.MatchString(command) {
		return "", api.ErrForm
	}
	var client, number int
	var word string
	fmt.Sscan(command, &client, &number, &word)
	switch {
	case number == p.last[client]:
		return p.answer[client], p.errno[client]
	case number < p.last[client]:
		return "", api.ErrOld
	case number > p.last[client]+1:
		return "", api.ErrGap
	}
	p.last[client] = number
	p.log += fmt.Sprintf("%02d%s", len(command), command)
	p.answer[client], p.errno[client] = p.obey(client, word, strings.Fields(command)[3:])
	return p.answer[client], p.errno[client]
}

func (p *plainMarket) obey(client int, word string, rest []string) (string, api.Errno) {
	var n [3]int
	for i, text := range rest {
		fmt.Sscan(text, &n[i])
	}
	cash := fmt.Sprint(client, " cash")
	slots := fmt.Sprint(client, " slots ", n[0])
	switch word {
	case "pay":
		return "", p.grow(cash, n[0], "cash", api.MaxCash)
	case "draw":
		return "", p.shrink(cash, n[0])
	case "bring":
		return "", p.grow(slots, n[1], fmt.Sprint("slots ", n[0]), api.MaxSlots)
	case "fetch":
		return "", p.shrink(slots, n[1])
	case "buy":
		return p.place(n[0], plainOrder{client: client, price: n[1], qty: n[2], side: "B", pot: cash, needs: n[1] * n[2]})
	case "sell":
		return p.place(n[0], plainOrder{client: client, price: n[1], qty: n[2], side: "S", pot: slots, needs: n[2]})
	case "drop":
		return "", p.drop(client, n[0], n[1])
	case "close":
		return p.close(n[0]), api.OK
	}
	if len(p.orders[n[0]]) > 0 {
		return "", api.ErrBusy
	}
	p.mode[n[0]] = rest[1]
	return "", api.OK
}

func (p *plainMarket) grow(pot string, n int, kind string, most int) api.Errno {
	all := n
	if kind == "cash" {
		all += p.house
	}
	for c := range api.Clients {
		each := fmt.Sprint(c, " ", kind)
		all += p.free[each] + p.held[each]
	}
	if all > most {
		return api.ErrMax
	}
	p.free[pot] += n
	return api.OK
}

func (p *plainMarket) shrink(pot string, n int) api.Errno {
	if p.free[pot] < n {
		return api.ErrFunds
	}
	p.free[pot] -= n
	return api.OK
}

func (p *plainMarket) place(voyage int, o plainOrder) (string, api.Errno) {
	if p.mode[voyage] == "m" && o.qty != 1 {
		return "", api.ErrMode
	}
	for _, other := range p.orders[voyage] {
		if p.mode[voyage] == "m" && other.client == o.client {
			return "", api.ErrMode
		}
	}
	if p.came[voyage] == api.MaxOrders {
		return "", api.ErrFull
	}
	if p.free[o.pot] < o.needs {
		return "", api.ErrFunds
	}
	p.free[o.pot] -= o.needs
	p.held[o.pot] += o.needs
	o.number = p.came[voyage]
	p.came[voyage]++
	p.orders[voyage] = append(p.orders[voyage], o)
	return fmt.Sprint(o.number), api.OK
}

func (p *plainMarket) drop(client, voyage, number int) api.Errno {
	for i, o := range p.orders[voyage] {
		if o.number == number && o.client == client {
			p.held[o.pot] -= o.needs
			p.free[o.pot] += o.needs
			p.orders[voyage] = append(append([]plainOrder{}, p.orders[voyage][:i]...), p.orders[voyage][i+1:]...)
			return api.OK
		}
	}
	return api.ErrOrder
}

func (p *plainMarket) close(voyage int) string {
	var orders []api.Order
	for _, o := range p.orders[voyage] {
		orders = append(orders, api.Order{Sell: o.side == "S", Price: o.price, Qty: o.qty})
	}
	var gets []int
	var pay, get int
	if p.mode[voyage] == "u" {
		gets, pay = plainUniform(orders)
		get = pay
	} else {
		gets, pay, get = plainMcAfee(orders)
	}
	bought, paid, got := 0, 0, 0
	for i, o := range p.orders[voyage] {
		cash, slots := fmt.Sprint(o.client, " cash"), fmt.Sprint(o.client, " slots ", voyage)
		p.held[o.pot] -= o.needs
		if o.side == "B" {
			bought += gets[i]
			paid += gets[i] * pay
			p.free[cash] += o.needs - gets[i]*pay
			p.free[slots] += gets[i]
		} else {
			got += gets[i] * get
			p.free[slots] += o.needs - gets[i]
			p.free[cash] += gets[i] * get
		}
	}
	p.house += paid - got
	p.orders[voyage], p.came[voyage] = nil, 0
	if bought == 0 {
		return "0"
	}
	return fmt.Sprintf("%d@%d/%d", bought, pay, get)
}

func (p *plainMarket) show() string {
	var parts []string
	for c := range api.Clients {
		var pots []string
		for _, kind := range []string{"cash", "slots 0", "slots 1"} {
			pot := fmt.Sprint(c, " ", kind)
			pots = append(pots, fmt.Sprintf("%d+%d", p.free[pot], p.held[pot]))
		}
		parts = append(parts, strings.Join(pots, " "))
	}
	parts = append(parts, fmt.Sprint(p.house))
	for v := range api.Voyages {
		var orders []string
		for _, o := range p.orders[v] {
			orders = append(orders, fmt.Sprintf("%d%s%d@%dx%d", o.number, o.side, o.client, o.price, o.qty))
		}
		parts = append(parts, p.mode[v]+strings.Join(orders, ","))
	}
	return strings.Join(parts, ";")
}

// someCommand makes a command that is mostly the client's next request, and mostly one that can be done. Of
// so many tasks as closing says, one is a close; if it is 0, none is.
func someCommand(numbers *fixedNumbers, last map[int]int, closing int) string {
	client := numbers.next(api.Clients)
	request := last[client] + 1
	switch numbers.next(12) {
	case 0:
		request--
	case 1:
		request += numbers.next(5) - 2
	}
	if numbers.next(50) == 0 {
		client = numbers.next(6) - 1
	}
	voyage := numbers.next(2)
	if numbers.next(60) == 0 {
		voyage = 2
	}
	task := someTask(numbers, voyage)
	if closing > 0 && numbers.next(closing) == 0 {
		task = fmt.Sprint("close ", voyage)
	}
	return fmt.Sprintf("%d %d %s", client, request, task)
}

func someTask(numbers *fixedNumbers, voyage int) string {
	// Mostly prices on one side of 50, so that half of 0 and 100 fits no pair, and pairs of mode m are dropped.
	price, qty := 1+numbers.next(30), 1+numbers.next(4)
	switch numbers.next(10) {
	case 0:
		price, qty = numbers.next(102), numbers.next(23)
	case 1, 2, 3:
		price, qty = 1+numbers.next(api.MaxPrice), 1
	}
	switch numbers.next(14) {
	case 0:
		return fmt.Sprint("pay ", numbers.next(300))
	case 1:
		return fmt.Sprint("pay ", numbers.next(10100))
	case 2:
		return fmt.Sprint("draw ", numbers.next(400))
	case 3:
		return fmt.Sprintf("bring %d %d", voyage, numbers.next(20))
	case 4:
		return fmt.Sprintf("bring %d %d", voyage, numbers.next(1010))
	case 5:
		return fmt.Sprintf("fetch %d %d", voyage, numbers.next(30))
	case 6, 7, 8:
		return fmt.Sprintf("buy %d %d %d", voyage, price, qty)
	case 9, 10, 11:
		return fmt.Sprintf("sell %d %d %d", voyage, price, qty)
	case 12:
		return fmt.Sprintf("drop %d %d", voyage, numbers.next(13))
	}
	return fmt.Sprintf("mode %d %c", voyage, "uuummmx"[numbers.next(7)])
}

// checkSame wants all that can be seen of the market to be as the plain market has it.
func checkSame(t *testing.T, m *market.Market, plain *plainMarket) {
	t.Helper()
	checkShow(t, m, plain.show())
	checkLog(t, m, plain.log)
	for c := range api.Clients {
		if m.Last(c) != plain.last[c] {
			t.Fatalf("Last(%d) = %d; want %d", c, m.Last(c), plain.last[c])
		}
	}
}

// checkDo wants the command answered as the plain market does, and both markets to be the same behind it. It tells
// the kind of the answer: how a close traded, or else the error.
func checkDo(t *testing.T, m *market.Market, plain *plainMarket, command string) string {
	t.Helper()
	before := m.Show()
	wantAnswer, wantErrno := plain.do(command)
	answer, errno := m.Do(command)
	if answer != wantAnswer || errno != wantErrno {
		t.Fatalf("Do(%q) = %q, %d; want %q, %d; the market before: %s", command, answer, errno, wantAnswer, wantErrno, before)
	}
	checkSame(t, m, plain)
	var slots, pay, get int
	if n, _ := fmt.Sscanf(answer, "%d@%d/%d", &slots, &pay, &get); n < 3 {
		return fmt.Sprint("error ", errno)
	}
	if pay > get {
		return "trade with a gain of the house"
	}
	return "trade at one price"
}

// checkSeen wants at least 100 answers of each kind: fewer would tell too little.
func checkSeen(t *testing.T, seen map[string]int, kinds []string) {
	t.Helper()
	for _, kind := range kinds {
		if seen[kind] < 100 {
			t.Errorf("%d answers of the kind %q: too few to tell", seen[kind], kind)
		}
	}
}

func TestMarketAgreesWithAPlainSecondReading(t *testing.T) {
	numbers := fixedNumbers{1}
	seen := map[string]int{}
	for round := range 400 {
		m, plain := market.New(), newPlainMarket()
		closing := []int{0, 60, 20, 10}[round%4]
		for range 300 {
			command := someCommand(&numbers, plain.last, closing)
			seen[checkDo(t, m, plain, command)]++
		}
	}
	kinds := []string{"trade at one price"}
	for _, errno := range []api.Errno{api.OK, api.ErrForm, api.ErrOld, api.ErrGap, api.ErrFunds, api.ErrMax, api.ErrFull, api.ErrMode, api.ErrBusy, api.ErrOrder} {
		kinds = append(kinds, fmt.Sprint("error ", errno))
	}
	checkSeen(t, seen, kinds)
}

// wealth is three requests of each client, by which all can buy and sell on both voyages.
func wealth() []string {
	var commands []string
	for c := range api.Clients {
		commands = append(commands, fmt.Sprint(c, " 1 pay 2000"), fmt.Sprint(c, " 2 bring 0 200"), fmt.Sprint(c, " 3 bring 1 200"))
	}
	return commands
}

// TestTradesAgreeWithAPlainSecondReading fills batches of both modes with orders that mostly trade, and closes them.
func TestTradesAgreeWithAPlainSecondReading(t *testing.T) {
	numbers := fixedNumbers{2}
	seen := map[string]int{}
	for round := range 200 {
		m, plain := market.New(), newPlainMarket()
		for _, command := range wealth() {
			checkDo(t, m, plain, command)
		}
		most := api.MaxQty
		if round%2 == 1 {
			most = 1
			checkDo(t, m, plain, "0 4 mode 0 m")
			checkDo(t, m, plain, "0 5 mode 1 m")
		}
		for range 300 {
			client, voyage, qty := numbers.next(api.Clients), numbers.next(api.Voyages), 1+numbers.next(most)
			task := fmt.Sprintf("buy %d %d %d", voyage, 30+numbers.next(70), qty)
			if client%2 == 1 != (numbers.next(10) == 0) {
				task = fmt.Sprintf("sell %d %d %d", voyage, 1+numbers.next(70), qty)
			}
			if numbers.next(9) == 0 {
				task = fmt.Sprint("close ", voyage)
			}
			seen[checkDo(t, m, plain, fmt.Sprintf("%d %d %s", client, plain.last[client]+1, task))]++
		}
	}
	checkSeen(t, seen, []string{"trade at one price", "trade with a gain of the house"})
}
