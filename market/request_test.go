package market_test

import (
	"regexp"
	"strconv"
	"strings"
	"testing"

	"market/api"
	"market/market"
)

// commandForm is a second reading of P8's table.
var commandForm = regexp.MustCompile(`^[0-3] [1-9][0-9]? (` + strings.Join([]string{
	`pay [1-9][0-9]{0,3}`,
	`draw [1-9][0-9]{0,3}`,
	`bring [01] [1-9][0-9]{0,2}`,
	`fetch [01] [1-9][0-9]{0,2}`,
	`buy [01] [1-9][0-9]? ([1-9]|1[0-9]|20)`,
	`sell [01] [1-9][0-9]? ([1-9]|1[0-9]|20)`,
	`drop [01] ([0-9]|10|11)`,
	`mode [01] [um]`,
	`close [01]`,
}, "|") + `)$`)

// goodCommands are commands at the bounds of P8, for each word.
var goodCommands = []string{
	"0 1 pay 1", "3 99 pay 9999", "1 10 pay 1000", "2 9 pay 10",
	"0 1 draw 1", "3 99 draw 9999", "1 50 draw 120",
	"0 1 bring 0 1", "3 99 bring 1 999", "2 20 bring 1 100",
	"0 1 fetch 0 1", "3 99 fetch 1 999", "2 7 fetch 0 50",
	"0 1 buy 0 1 1", "3 99 buy 1 99 20", "1 1 buy 0 10 10", "1 1 buy 0 9 19",
	"0 1 sell 0 1 1", "3 99 sell 1 99 20", "1 1 sell 1 90 2",
	"0 1 drop 0 0", "3 99 drop 1 11", "2 1 drop 0 10", "2 1 drop 1 9",
	"0 1 mode 0 u", "3 99 mode 1 m", "1 1 mode 1 u", "1 1 mode 0 m",
	"0 1 close 0", "3 99 close 1",
}

// checkForm wants ErrForm just where the second reading finds no command, and then a market as before.
func checkForm(t *testing.T, command string) {
	t.Helper()
	m := market.New()
	answer, errno := m.Do(command)
	isCommand := len(command) <= api.MaxCommand && commandForm.MatchString(command)
	if (errno != api.ErrForm) != isCommand {
		t.Fatalf("Do(%.60q) = %q, %d; a command: %v", command, answer, errno, isCommand)
	}
	if isCommand {
		return
	}
	if answer != "" || m.Show() != emptyMarket || lasts(m) != [api.Clients]int{} {
		t.Fatalf("Do(%.60q) = %q, and the market is %s, %v", command, answer, m.Show(), lasts(m))
	}
}

func TestGoodCommandsAreTaken(t *testing.T) {
	for _, command := range goodCommands {
		if _, errno := market.New().Do(command); errno == api.ErrForm {
			t.Errorf("Do(%q) is ErrForm", command)
		}
		checkForm(t, command)
	}
}

func TestWrongCommandsAreRefused(t *testing.T) {
	for _, command := range []string{
		"", " ", "  ", "   ", "0", "0 ", "0 1", "0 1 ", "0 1 pay", "0 1 pay ", "0 1 buy 0", "0 1 buy 0 1", "0 1 buy 0 1 ",
		"0 1 bring 0", "0 1 fetch 1 ", "0 1 drop 1", "0 1 mode 1", "0 1 mode 1 ", "0 1 close", "0 1 close ",
		"0 1 pay 1 1", "0 1 draw 1 u", "0 1 bring 0 1 1", "0 1 buy 0 1 1 1", "0 1 drop 0 0 0", "0 1 mode 0 u u", "0 1 close 0 0",
		" 0 1 pay 1", "0 1 pay 1 ", "0  1 pay 1", "0 1  pay 1", "0 1 pay  1", "0 1 buy 0  1 1",
		"0\t1 pay 1", "0 1 pay\t1", "0 1 pay 1\n", "\n0 1 pay 1", "0 1 pay 1\x00", "0\u00a01 pay 1",
		"-1 1 pay 1", "-0 1 pay 1", "+0 1 pay 1", "4 1 pay 1", "9 1 pay 1", "10 1 pay 1", "00 1 pay 1", "03 1 pay 1", "x 1 pay 1",
		"0 0 pay 1", "0 00 pay 1", "0 01 pay 1", "0 -1 pay 1", "0 +1 pay 1", "0 100 pay 1", "0 999 pay 1", "0 1. pay 1",
		"0 1 pay 0", "0 1 pay 10000", "0 1 pay 01", "0 1 pay 00001", "0 1 pay -1", "0 1 pay 0x1", "0 1 pay 1e1", "0 1 pay 1_0", "0 1 pay 1.0",
		"0 1 draw 0", "0 1 draw 10000", "0 1 bring 0 0", "0 1 bring 0 1000", "0 1 bring 2 1", "0 1 bring -1 1", "0 1 bring 00 1", "0 1 bring 01 1",
		"0 1 fetch 0 0", "0 1 fetch 0 1000", "0 1 fetch 2 1", "0 1 fetch 0 01",
		"0 1 buy 0 0 1", "0 1 buy 0 100 1", "0 1 buy 0 1 0", "0 1 buy 0 1 21", "0 1 buy 2 1 1", "0 1 buy 0 01 1", "0 1 buy 0 1 01",
		"0 1 sell 0 0 1", "0 1 sell 0 100 1", "0 1 sell 0 1 0", "0 1 sell 0 1 21", "0 1 sell 2 1 1", "0 1 sell 0 1 99",
		"0 1 drop 0 12", "0 1 drop 0 -1", "0 1 drop 0 00", "0 1 drop 2 0", "0 1 drop 0 99",
		"0 1 mode 0 x", "0 1 mode 0 U", "0 1 mode 0 um", "0 1 mode 0 0", "0 1 mode 2 u", "0 1 mode u", "0 1 mode u 0",
		"0 1 close 2", "0 1 close -1", "0 1 close u", "0 1 close 00",
		"0 1 Pay 1", "0 1 PAY 1", "0 1 pays 1", "0 1 pa 1", "0 1 nothing 1", "0 1 1 pay", "pay 0 1 1", "0 1  1", "0 1 show", "0 1 log 0", "nothing",
		"０ 1 pay 1", "0 1 pay １", "0 1 pay \xff", "\xff", "0 1 p\u0430y 1",
		"0 1 pay 18446744073709551617", "0 1 pay 4294967297", "0 18446744073709551617",
		"0 1 pay 99999999999", "0 1 pay 999999999999", "0 1 pay 9999999999999",
	} {
		if _, errno := market.New().Do(command); errno != api.ErrForm {
			t.Errorf("Do(%q) is %d; want ErrForm", command, errno)
		}
		checkForm(t, command)
	}
}

func TestLongTextsAreNoCommands(t *testing.T) {
	for _, n := range []int{4, 5, 11, 12, 13, 100, 1 << 20} {
		checkForm(t, "0 1 pay "+strings.Repeat("0", n)+"1")
		checkForm(t, "0 1 pay "+strings.Repeat("1", n))
		checkForm(t, "0 1 pay 1"+strings.Repeat(" ", n))
		checkForm(t, strings.Repeat(" ", n)+"0 1 pay 1")
		checkForm(t, strings.Repeat("0 1 pay 1 ", n))
		checkForm(t, strings.Repeat(" ", n))
		checkForm(t, strings.Repeat("\x00", n))
	}
}

// TestCommandsWithOneByteWrong takes out, lays in and changes each byte of each good command.
func TestCommandsWithOneByteWrong(t *testing.T) {
	for _, command := range goodCommands {
		for i := 0; i <= len(command); i++ {
			for b := range 256 {
				checkForm(t, command[:i]+string([]byte{byte(b)})+command[i:])
			}
			if i == len(command) {
				continue
			}
			checkForm(t, command[:i]+command[i+1:])
			checkForm(t, command[:i])
			checkForm(t, command[i:])
			for b := range 256 {
				checkForm(t, command[:i]+string([]byte{byte(b)})+command[i+1:])
			}
		}
	}
}

// TestCommandsWithOneFieldWrong lays each of many fields into each place of each good command.
func TestCommandsWithOneFieldWrong(t *testing.T) {
	others := []string{"", " ", "0", "1", "2", "3", "4", "9", "10", "11", "12", "13", "19", "20", "21", "98", "99", "100", "101", "998", "999", "1000", "9998", "9999", "10000", "-1", "+1", "01", "00", "u", "m", "pay", "draw", "bring", "fetch", "buy", "sell", "drop", "mode", "close", "1x", "x", "1 1"}
	for _, command := range goodCommands {
		words := strings.Split(command, " ")
		for i := range words {
			for _, other := range others {
				changed := append([]string{}, words...)
				changed[i] = other
				checkForm(t, strings.Join(changed, " "))
			}
		}
	}
}

// TestEachNumberOfACommand tries all numbers from 0 to beyond each bound.
func TestEachNumberOfACommand(t *testing.T) {
	for _, form := range []string{"# 1 pay 1", "0 # pay 1", "0 1 pay #", "0 1 draw #", "0 1 bring # 1", "0 1 bring 0 #", "0 1 fetch 1 #", "0 1 buy # 1 1", "0 1 buy 0 # 1", "0 1 buy 0 1 #", "0 1 sell 1 # 1", "0 1 sell 1 1 #", "0 1 drop # 0", "0 1 drop 0 #", "0 1 mode # u", "0 1 close #"} {
		for n := range 10050 {
			checkForm(t, strings.Replace(form, "#", strconv.Itoa(n), 1))
		}
	}
}

// TestTextsOfManyKinds tries texts of a command's bytes in no order, of up to and beyond the greatest length.
func TestTextsOfManyKinds(t *testing.T) {
	numbers := fixedNumbers{1}
	pieces := []string{" ", " ", " ", "0", "1", "2", "9", "pay", "draw", "bring", "fetch", "buy", "sell", "drop", "mode", "close", "u", "m", "-", "x", "\x00", "\xff"}
	for range 200000 {
		text := ""
		for range numbers.next(12) {
			text += pieces[numbers.next(len(pieces))]
		}
		checkForm(t, text)
	}
}
