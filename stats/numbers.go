package stats

import (
	"cmp"
	"math"
	"slices"

	"tallyman/api"
	"tallyman/quant"
)

const (
	mostNumbers = 4096
	mostParts   = 64
)

// Summary is what is said of numbers: how many are numbers; the least and the greatest of these; the middle one.
type Summary struct {
	Numbers          int
	Least, Most, Mid float64
}

// order: which of two numbers comes first; of noughts the one with a sign.
func order(a, b float64) int {
	if a != b {
		return cmp.Compare(a, b)
	}
	return sign(a) - sign(b)
}

// sign is 0 of what has a sign, else 1.
func sign(x float64) int {
	if math.Signbit(x) {
		return 0
	}
	return 1
}

// sorted are those that are numbers, in order.
func sorted(l []float64) []float64 {
	numbers := make([]float64, 0, len(l))
	for _, x := range l {
		if !math.IsNaN(x) {
			numbers = append(numbers, x)
		}
	}
	slices.SortFunc(numbers, order)
	return numbers
}

// Summarize: of any numbers; what is no number doesn't count; of none the least, the greatest and the middle one are no numbers.
func Summarize(l []float64) Summary {
	numbers := sorted(l[:min(len(l), mostNumbers)])
	many := len(numbers)
	if many == 0 {
		return Summary{0, math.NaN(), math.NaN(), math.NaN()}
	}
	return Summary{many, numbers[0], numbers[many-1], numbers[(many-1)/2]}
}

// Clamp: a number, not below one, not above another one; what is no number is the first.
func Clamp(x, low, high float64) (float64, api.Errno) {
	if math.IsNaN(low) || math.IsNaN(high) {
		return 0, api.ErrNaN
	}
	if low > high {
		return 0, api.ErrRange
	}
	if math.IsNaN(x) || x < low {
		return low, api.OK
	}
	if x > high {
		return high, api.OK
	}
	return x, api.OK
}

// Near: are two numbers the same, or not further from each other than so much?
func Near(a, b, by float64) bool { return quant.Same(a, b) || math.Abs(a-b) <= by }

// Histogram: of numbers how many fall into each of so many parts between two ends; those outside at the ends; what is no number aside.
func Histogram(l []float64, low, high float64, parts int) ([]int, int, api.Errno) {
	if math.IsNaN(low) || math.IsNaN(high) {
		return nil, 0, api.ErrNaN
	}
	width := high - low
	if !(low < high) || math.IsInf(width, 0) {
		return nil, 0, api.ErrRange
	}
	if parts < 1 || parts > mostParts {
		return nil, 0, api.ErrSize
	}
	if len(l) > mostNumbers {
		return nil, 0, api.ErrMany
	}
	counts, none := make([]int, parts), 0
	for _, x := range l {
		if math.IsNaN(x) {
			none++
			continue
		}
		counts[part((x-low)/width*float64(parts), parts)]++
	}
	return counts, none, api.OK
}

// part is the part into which a number falls.
func part(at float64, parts int) int {
	whole := math.Floor(at)
	if whole < 0 {
		return 0
	}
	if whole >= float64(parts) {
		return parts - 1
	}
	return int(whole)
}

// Part: the number below which there is such a share (from 0 to 1) of numbers, in between by how near it is; what is no number doesn't count; of none it is none.
func Part(l []float64, share float64) (float64, api.Errno) {
	if math.IsNaN(share) {
		return 0, api.ErrNaN
	}
	if share < 0 || share > 1 {
		return 0, api.ErrRange
	}
	if len(l) > mostNumbers {
		return 0, api.ErrMany
	}
	numbers := sorted(l)
	if len(numbers) == 0 {
		return math.NaN(), api.OK
	}
	place := share * float64(len(numbers)-1)
	whole := math.Floor(place)
	at := int(whole)
	if place == whole || at+1 >= len(numbers) {
		return numbers[at], api.OK
	}
	distance := numbers[at+1] - numbers[at]
	if distance == 0 || math.IsInf(distance, 0) || math.IsNaN(distance) {
		return numbers[at], api.OK
	}
	return numbers[at] + float64(distance*(place-whole)), api.OK
}
