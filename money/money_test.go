package money_test

import (
	"math/big"
	"testing"

	"manciple/api"
	"manciple/money"
)

const most = uint64(1) << 62

func want(t *testing.T, what string, got uint64, err api.Errno, n uint64, e api.Errno) {
	t.Helper()
	if got != n || err != e {
		t.Errorf("%s: %d, %v, not %d, %v", what, got, err, n, e)
	}
}

func TestAdd(t *testing.T) {
	for _, c := range []struct {
		a, b, n uint64
		e       api.Errno
	}{
		{2, 3, 5, 0}, {0, 0, 0, 0}, {most, 0, most, 0}, {0, most, most, 0}, {most - 1, 1, most, 0},
		{most, 1, 0, api.ErrMoneyGreat}, {1, most, 0, api.ErrMoneyGreat},
		{most + 1, 0, 0, api.ErrMoneyGreat}, {0, most + 1, 0, api.ErrMoneyGreat},
		{1<<64 - 1, 2, 0, api.ErrMoneyGreat}, {2, 1<<64 - 1, 0, api.ErrMoneyGreat}, {1 << 63, 1 << 63, 0, api.ErrMoneyGreat},
	} {
		got, err := money.Add(c.a, c.b)
		want(t, "Add", got, err, c.n, c.e)
		if err == api.OK {
			back, err := money.Sub(got, c.b)
			want(t, "Sub of Add", back, err, c.a, api.OK)
		}
	}
}

func TestSub(t *testing.T) {
	for _, c := range []struct {
		a, b, n uint64
		e       api.Errno
	}{
		{5, 3, 2, 0}, {5, 5, 0, 0}, {most, most, 0, 0}, {most, 0, most, 0},
		{5, 6, 0, api.ErrMoneyLess}, {0, most, 0, api.ErrMoneyLess},
		{most + 1, 1, 0, api.ErrMoneyGreat}, {5, most + 1, 0, api.ErrMoneyGreat}, {most + 2, most + 1, 0, api.ErrMoneyGreat},
	} {
		got, err := money.Sub(c.a, c.b)
		want(t, "Sub", got, err, c.n, c.e)
	}
}

func TestTimes(t *testing.T) {
	for _, c := range []struct {
		a, n, want uint64
		e          api.Errno
	}{
		{7, 6, 42, 0}, {0, 1<<64 - 1, 0, 0}, {1, most, most, 0}, {most, 1, most, 0}, {most, 0, 0, 0},
		{1 << 31, 1 << 31, most, 0}, {most + 1, 0, 0, api.ErrMoneyGreat}, {1, most + 1, 0, api.ErrMoneyGreat},
		{1 << 32, 1 << 32, 0, api.ErrMoneyGreat}, {most, 4, 0, api.ErrMoneyGreat}, {3, 1<<64 - 1, 0, api.ErrMoneyGreat},
		{1 << 62, 1 << 63, 0, api.ErrMoneyGreat},
	} {
		got, err := money.Times(c.a, c.n)
		want(t, "Times", got, err, c.want, c.e)
	}
}

func TestPart(t *testing.T) {
	for _, c := range []struct {
		n, a, b, want uint64
		e             api.Errno
	}{
		{7, 3, 2, 10, 0}, {0, 0, 1, 0, 0}, {1, 1, 2, 0, 0}, {1<<64 - 1, 1<<64 - 1, 0, 0, api.ErrArg}, {1, 1, 0, 0, api.ErrArg},
		{1<<64 - 1, most, 1<<64 - 1, most, 0}, {1<<64 - 1, 1<<64 - 1, 1<<64 - 1, 0, api.ErrMoneyGreat},
		{most, 1, 1, most, 0}, {most + 1, 1, 1, 0, api.ErrMoneyGreat}, {1 << 63, 1 << 63, 1 << 63, 0, api.ErrMoneyGreat},
		{1 << 63, 2, 1, 0, api.ErrMoneyGreat},
	} {
		got, err := money.Part(c.n, c.a, c.b)
		want(t, "Part", got, err, c.want, c.e)
	}
	for i := range uint64(500) {
		n, a, b := i*i*0x123456789abcd+i, i<<(i%60), i*7919+1
		q := new(big.Int).Mul(new(big.Int).SetUint64(n), new(big.Int).SetUint64(a))
		q.Div(q, new(big.Int).SetUint64(b))
		got, err := money.Part(n, a, b)
		if q.Cmp(new(big.Int).SetUint64(most)) > 0 {
			want(t, "Part", got, err, 0, api.ErrMoneyGreat)
		} else {
			want(t, "Part", got, err, q.Uint64(), api.OK)
		}
	}
}

func TestAll(t *testing.T) {
	for _, c := range []struct {
		l []uint64
		n uint64
		e api.Errno
	}{
		{nil, 0, 0}, {[]uint64{4}, 4, 0}, {[]uint64{1, 2, 3}, 6, 0}, {[]uint64{most, 0, 0}, most, 0},
		{[]uint64{most, 1}, 0, api.ErrMoneyGreat}, {[]uint64{most + 1}, 0, api.ErrMoneyGreat},
		{[]uint64{1, 1<<64 - 1}, 0, api.ErrMoneyGreat}, {[]uint64{most / 2, most / 2}, most, 0},
	} {
		got, err := money.All(c.l...)
		want(t, "All", got, err, c.n, c.e)
	}
}
