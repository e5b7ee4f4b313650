package job_test

import (
	"math"
	"math/big"
	"testing"

	"steeplejack/api"
	"steeplejack/job"
)

func rate(low, high, above, come int) api.Rate {
	return api.Rate{Low: low, High: high, Above: above, Come: come}
}

// exampleRate is the rate of the chapter's example.
var exampleRate = rate(100, 10_000, 150, 500)

// wrongRates is rates that are not valid.
func wrongRates() []api.Rate {
	wrong := []api.Rate{{}, rate(100, 0, 150, 500), rate(100, 200_001, 150, 500)}
	for _, n := range []int{math.MinInt, -1, 1_000_001, math.MaxInt} {
		wrong = append(wrong, rate(n, 10, 1, 1), rate(1, n, 1, 1), rate(1, 10, n, 1), rate(1, 10, 1, n))
	}
	return wrong
}

// 9.3: ValidRate.
func TestValidRate(t *testing.T) {
	for _, r := range []api.Rate{exampleRate, rate(0, 1, 0, 0), rate(1_000_000, 200_000, 1_000_000, 1_000_000), rate(5, 1_000, 3, 0)} {
		if !job.ValidRate(r) {
			t.Errorf("%v is not valid", r)
		}
	}
	for _, r := range wrongRates() {
		if job.ValidRate(r) {
			t.Errorf("%v is valid", r)
		}
		for _, height := range []int{5, -1} {
			price, e := job.Price(r, height)
			want(t, "Price", price, e, 0, api.ErrInvalid)
			for _, stopped := range []int{0, -1} {
				price, e = job.Standing(r, height, stopped, 1)
				want(t, "Standing", price, e, 0, api.ErrInvalid)
			}
		}
	}
}

// 9.3: Price.
func TestPrice(t *testing.T) {
	odd := rate(7, 2_500, 11, 3)
	greatest := rate(1_000_000, 100_001, 1_000_000, 1_000_000)
	for _, c := range []struct {
		r            api.Rate
		height, want int
	}{
		{exampleRate, 12_500, 1_950}, {exampleRate, 0, 500}, {exampleRate, 1, 600}, {exampleRate, 999, 600}, {exampleRate, 1_000, 600}, {exampleRate, 1_001, 700}, {exampleRate, 2_000, 700},
		{exampleRate, 9_999, 1_500}, {exampleRate, 10_000, 1_500}, {exampleRate, 10_001, 1_650}, {exampleRate, 11_000, 1_650}, {exampleRate, 11_001, 1_800}, {exampleRate, 200_000, 30_000},
		{odd, 2_000, 17}, {odd, 2_001, 24}, {odd, 2_500, 24}, {odd, 2_501, 35}, {odd, 3_000, 35}, {odd, 3_001, 35}, {odd, 3_500, 35}, {odd, 3_501, 46}, {odd, 200_000, 2_202},
		{rate(5, 1, 3, 0), 1, 5}, {rate(5, 1, 3, 0), 2, 8}, {rate(5, 1, 3, 0), 1_001, 8}, {rate(5, 1, 3, 0), 1_002, 11},
		{rate(5, 200_000, 3, 0), 200_000, 1_000}, {rate(0, 1, 0, 0), 200_000, 0}, {greatest, 200_000, 202_000_000}, {greatest, 0, 1_000_000},
	} {
		price, e := job.Price(c.r, c.height)
		want(t, "Price", price, e, c.want, api.OK)
	}
	for _, n := range wild {
		if n < 0 || n > 200_000 {
			price, e := job.Price(exampleRate, n)
			want(t, "Price", price, e, 0, api.ErrRange)
			price, e = job.Standing(exampleRate, n, 0, 1)
			want(t, "Standing", price, e, 0, api.ErrRange)
		}
	}
}

// 9.3: Standing.
func TestStanding(t *testing.T) {
	for _, c := range []struct {
		r                          api.Rate
		height, stopped, all, want int
	}{
		{exampleRate, 12_500, 0, 1, 1_950}, {exampleRate, 12_500, 1, 1, 2_925}, {exampleRate, 12_500, 1, 2, 2_437}, {exampleRate, 12_500, 1, 3, 2_275}, {exampleRate, 12_500, 2, 3, 2_600}, {exampleRate, 12_500, 1, 7, 2_089},
		{exampleRate, 12_500, 0, 1_000_000, 1_950}, {exampleRate, 12_500, 1, 1_000_000, 1_950}, {exampleRate, 12_500, 999_999, 1_000_000, 2_924}, {exampleRate, 12_500, 1_000_000, 1_000_000, 2_925},
		{rate(0, 1, 0, 1), 0, 1, 1, 1}, {rate(0, 1, 0, 3), 0, 1, 1, 4}, {rate(0, 1, 0, 0), 9, 1, 1, 0},
		{rate(1_000_000, 100_001, 1_000_000, 1_000_000), 200_000, 1_000_000, 1_000_000, 303_000_000}, {rate(1_000_000, 100_001, 1_000_000, 1_000_000), 200_000, 999_999, 1_000_000, 302_999_899},
	} {
		price, e := job.Standing(c.r, c.height, c.stopped, c.all)
		want(t, "Standing", price, e, c.want, api.OK)
	}
	for _, n := range wild {
		if n < 1 || n > 1_000_000 {
			price, e := job.Standing(exampleRate, 5, 0, n)
			want(t, "Standing", price, e, 0, api.ErrRange)
			price, e = job.Standing(exampleRate, 5, n, n)
			want(t, "Standing", price, e, 0, api.ErrRange)
		}
		if n < 0 || n > 50 {
			price, e := job.Standing(exampleRate, 5, n, 50)
			want(t, "Standing", price, e, 0, api.ErrRange)
		}
	}
	price, e := job.Standing(exampleRate, 5, 51, 50)
	want(t, "Standing", price, e, 0, api.ErrRange)
}

// P9.5: a greater height never costs less; Standing is at least the Price, and at most half as much again.
func TestPricesGrow(t *testing.T) {
	r := random()
	for range 3000 {
		x := rate(r.IntN(1_000), 1+r.IntN(9_000), r.IntN(1_000), r.IntN(1_000))
		if r.IntN(4) == 0 {
			x = rate(r.IntN(1_000_001), 1+r.IntN(200_000), r.IntN(1_000_001), r.IntN(1_000_001))
		}
		height := r.IntN(12_000)
		price := mustPrice(t, x, height)
		for _, more := range []int{0, 1, r.IntN(1_000), r.IntN(180_000)} {
			if higher := mustPrice(t, x, height+more); higher < price {
				t.Fatalf("Price(%v, %d) = %d, for %d it is %d", x, height, price, height+more, higher)
			}
		}
		all := 1 + r.IntN(1_000_000)
		stopped := r.IntN(all + 1)
		standing, e := job.Standing(x, height, stopped, all)
		want(t, "Standing", standing, e, slowStanding(price, stopped, all), api.OK)
		if standing < price || 2*standing > 3*price {
			t.Fatalf("Standing(%v, %d, %d, %d) = %d, the price is %d", x, height, stopped, all, standing, price)
		}
	}
}

// slowStanding reckons with a big fraction.
func slowStanding(price, stopped, all int) int {
	share := big.NewRat(int64(2*all+stopped), int64(2*all))
	share.Mul(share, big.NewRat(int64(price), 1))
	return int(new(big.Int).Div(share.Num(), share.Denom()).Int64())
}
