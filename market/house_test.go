package market

import (
	"testing"

	"market/api"
)

// TestHouseCountsWithTheCashOfAll lays cash into the house by hand: no command brings any there yet.
func TestHouseCountsWithTheCashOfAll(t *testing.T) {
	m := New()
	m.house = 123
	if _, errno := m.Do("0 1 pay 9877"); errno != api.ErrMax {
		t.Errorf("pay beyond the bound is answered %d; want ErrMax", errno)
	}
	if _, errno := m.Do("0 2 pay 9876"); errno != api.OK {
		t.Errorf("pay to the bound is answered %d; want OK", errno)
	}
	want := "9876+0 0+0 0+0;0+0 0+0 0+0;0+0 0+0 0+0;0+0 0+0 0+0;123;u;u"
	if got := m.Show(); got != want {
		t.Errorf("Show() = %s; want %s", got, want)
	}
}
