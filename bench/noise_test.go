package bench_test

import (
	"math"
	"math/big"
	"testing"

	"couplant/api"
	"couplant/bench"
)

// noiseOf returns the first numbers of noise, by definition.
func noiseOf(seed, size, count int) []int {
	x := big.NewInt(int64(seed))
	modulus := big.NewInt(2147483648)
	var l []int
	for range count {
		x.Mul(x, big.NewInt(1103515245))
		x.Add(x, big.NewInt(12345))
		x.Mod(x, modulus)
		high := new(big.Int).Div(x, big.NewInt(65536))
		l = append(l, int(high.Mod(high, big.NewInt(int64(2*size+1))).Int64())-size)
	}
	return l
}

// P4.5

func TestNoise(t *testing.T) {
	expectAlike(t, "Noise", must(bench.Noise(1, 1, 1)), []int{1})
	for _, seed := range []int{0, 1, 2, 65536, 1<<30 + 5, 2147483646, 2147483647} {
		for _, size := range []int{0, 1, 2, 7, 100, 199, 200} {
			expectAlike(t, "Noise", must(bench.Noise(seed, size, 300)), noiseOf(seed, size, 300))
		}
	}
	expectAlike(t, "Noise of no size", must(bench.Noise(77, 0, 3)), []int{0, 0, 0})
	expectAlike(t, "Noise of no numbers", must(bench.Noise(77, 5, 0)), nil)
	expectAlike(t, "Noise of most numbers", must(bench.Noise(77, 200, 16384)), noiseOf(77, 200, 16384))
}

func TestNoiseRefuses(t *testing.T) {
	for _, x := range [][3]int{
		{-1, 0, 0}, {2147483648, 0, 0}, {huge, 0, 0}, {-huge - 1, 0, 0},
		{0, -1, 0}, {0, 201, 0}, {0, huge, 0}, {0, -huge - 1, 0},
		{0, 0, -1}, {0, 0, 16385}, {0, 0, huge}, {0, 0, -huge - 1},
		{-1, -1, -1},
	} {
		l, e := bench.Noise(x[0], x[1], x[2])
		refused(t, "Noise", l, e, api.ErrRange)
	}
}

func TestNoisy(t *testing.T) {
	var n numbers = 8
	for _, elements := range []int{1, 2, 3, 16} {
		m := n.matrix(elements, 1847)
		seed, size := n.from(0, 2147483647), n.from(0, 200)
		want := api.FullMatrix{Elements: elements}
		for k, x := range noiseOf(seed, size, len(m.Buffer)) {
			want.Buffer = append(want.Buffer, m.Buffer[k]+float32(x))
		}
		expectAlike(t, "Noisy", must(bench.Noisy(m, seed, size)), want)
		expectAlike(t, "Noisy of no size", must(bench.Noisy(m, seed, 0)), m)
	}
}

// The first number of noise of the seed 1 and the size 1 is 1.
func TestNoisySamplesMayNotBeTooLarge(t *testing.T) {
	m := api.FullMatrix{Elements: 1, Buffer: make([]float32, 64)}
	m.Buffer[0] = 2046
	expectAlike(t, "Noisy", must(bench.Noisy(m, 1, 1)).Buffer[0], 2047)
	m.Buffer[0] = 2047
	x, e := bench.Noisy(m, 1, 1)
	refused(t, "Noisy", x, e, api.ErrLarge)
	expectAlike(t, "Noisy of no size", must(bench.Noisy(m, 1, 0)), m)
	// The first number below 0 stands somewhere; there the least sample is
	// too large.
	for k, number := range noiseOf(1, 1, 64) {
		m.Buffer[0], m.Buffer[k] = 0, -2047
		x, e := bench.Noisy(m, 1, 1)
		if number < 0 {
			refused(t, "Noisy", x, e, api.ErrLarge)
		} else {
			expect(t, "Noisy", x.Buffer[k], e, float32(number-2047), api.OK)
		}
		m.Buffer[k] = 0
	}
}

func TestNoisyHasNoMinusZero(t *testing.T) {
	m := api.FullMatrix{Elements: 1, Buffer: make([]float32, 64)}
	for k := range m.Buffer {
		m.Buffer[k] = float32(math.Copysign(0, -1))
	}
	for _, size := range []int{0, 1} {
		want := api.FullMatrix{Elements: 1}
		for _, x := range noiseOf(5, size, 64) {
			want.Buffer = append(want.Buffer, float32(x))
		}
		expectAlike(t, "Noisy", must(bench.Noisy(m, 5, size)), want)
	}
}

func TestNoisyRefuses(t *testing.T) {
	matrix := func(elements, samples, at int, sample float32) api.FullMatrix {
		m := api.FullMatrix{Elements: elements, Buffer: make([]float32, samples)}
		if samples > 0 {
			m.Buffer[at] = sample
		}
		return m
	}
	for _, x := range []struct {
		m          api.FullMatrix
		seed, size int
		want       api.Errno
	}{
		{api.FullMatrix{}, 1, 1, api.ErrRange},
		{matrix(17, 17*17*64, 0, 0), 1, 1, api.ErrRange},
		{matrix(1, 0, 0, 0), 1, 1, api.ErrShape},
		{matrix(2, 255, 0, 0), -1, -1, api.ErrShape},
		{matrix(2, 256, 255, 0.5), -1, -1, api.ErrWhole},
		{matrix(2, 256, 255, float32(math.NaN())), 1, 1, api.ErrWhole},
		{matrix(2, 256, 255, 2048), 1, 1, api.ErrRange},
		{matrix(1, 64, 0, 2047), -1, 1, api.ErrRange},
		{matrix(1, 64, 0, 2047), 2147483648, 1, api.ErrRange},
		{matrix(1, 64, 0, 2047), 1, -1, api.ErrRange},
		{matrix(1, 64, 0, 2047), 1, 201, api.ErrRange},
		{matrix(1, 64, 0, 2047), -huge - 1, huge, api.ErrRange},
		{matrix(1, 64, 0, 2047), 1, 1, api.ErrLarge},
	} {
		m, e := bench.Noisy(x.m, x.seed, x.size)
		refused(t, "Noisy", m, e, x.want)
	}
}

// P4.10, of noise

func TestNoiseBeginsLikeLongerNoise(t *testing.T) {
	long := must(bench.Noise(12345, 150, 1000))
	for _, count := range []int{0, 1, 2, 63, 500, 999, 1000} {
		expectAlike(t, "Noise", must(bench.Noise(12345, 150, count)), long[:count])
	}
}
