package bench

import (
	"slices"

	"couplant/api"
	"couplant/check"
	"couplant/trace"
)

// noiseModulus is the number of the states that noise goes through.
const noiseModulus = 1 << 31

// Noise returns the first numbers of the noise of a seed.
func Noise(seed, size, count int) ([]int, api.Errno) {
	e := check.First(
		check.Within(seed, 0, noiseModulus-1),
		check.Within(size, 0, api.MaxNoiseSize),
		check.Within(count, 0, api.MaxNoise),
	)
	if e != api.OK {
		return nil, e
	}
	var numbers []int
	x := seed
	for range count {
		x = (1103515245*x + 12345) % noiseModulus
		numbers = append(numbers, x/65536%(2*size+1)-size)
	}
	return numbers, api.OK
}

// Noisy returns a full matrix with noise added to its samples.
func Noisy(m api.FullMatrix, seed, size int) (api.FullMatrix, api.Errno) {
	if _, e := trace.CheckMatrix(m); e != api.OK {
		return api.FullMatrix{}, e
	}
	// No matrix that is right has more samples than there is noise.
	sums, e := Noise(seed, size, len(m.Buffer))
	if e != api.OK {
		return api.FullMatrix{}, e
	}
	for k, sample := range m.Buffer {
		sums[k] += int(sample)
	}
	if _, e := check.Each(sums, largeError); e != api.OK {
		return api.FullMatrix{}, e
	}
	m.Buffer = slices.Clone(m.Buffer)
	for k, sum := range sums {
		m.Buffer[k] = float32(sum)
	}
	return m, api.OK
}
