// Package field is layer 2: see shared/doc/02-field.md.
package field

import (
	"gloaming/api"
	"gloaming/fault"
)

// Layout parts a word of 64 bits into fields, the lowest first.
type Layout struct {
	n      int
	shifts [65]uint8 // the last one is where all fields end
}

// New is a layout of fields of some widths.
func New(widths ...int) (Layout, error) {
	var l Layout
	sum := 0
	for i, w := range widths {
		if w < 1 || w > 32 {
			return Layout{}, fault.At(i, api.ErrRange)
		}
		if sum += w; sum > 64 {
			return Layout{}, fault.At(i, api.ErrLimit)
		}
		l.n = i + 1
		l.shifts[l.n] = uint8(sum)
	}
	return l, nil
}

// Fields is how many fields there are.
func (l Layout) Fields() int { return l.n }

func (l Layout) has(i int) bool { return i >= 0 && i < l.n }

// Most is the greatest number of a field.
func (l Layout) Most(i int) uint64 {
	if !l.has(i) {
		return 0
	}
	return 1<<(l.shifts[i+1]-l.shifts[i]) - 1
}

func (l Layout) fits(i, v int) bool { return v >= 0 && uint64(v) <= l.Most(i) }

// Pack are numbers as a word.
func (l Layout) Pack(values ...int) (uint64, error) {
	if len(values) != l.n {
		return 0, api.ErrArg
	}
	var word uint64
	for i, v := range values {
		if !l.fits(i, v) {
			return 0, fault.At(i, api.ErrRange)
		}
		word |= uint64(v) << l.shifts[i]
	}
	return word, nil
}

// Get is a field of a word; 0: there is no such field.
func (l Layout) Get(word uint64, i int) int {
	if !l.has(i) {
		return 0
	}
	return int(word >> l.shifts[i] & l.Most(i))
}

// All are all fields of a word.
func (l Layout) All(word uint64) []int {
	all := make([]int, l.n)
	for i := range all {
		all[i] = l.Get(word, i)
	}
	return all
}

// With is a word with another number in a field.
func (l Layout) With(word uint64, i, v int) (uint64, error) {
	if !l.has(i) {
		return 0, api.ErrNone
	}
	if !l.fits(i, v) {
		return 0, fault.At(i, api.ErrRange)
	}
	word &^= l.Most(i) << l.shifts[i]
	return word | uint64(v)<<l.shifts[i], nil
}

// Sound says whether nothing stands in a word above its fields.
func (l Layout) Sound(word uint64) bool { return word>>l.shifts[l.n] == 0 }

// Add is a sum of numbers from nothing on, that stops at the most.
func Add(most uint64, l ...uint64) uint64 {
	var sum uint64
	for _, x := range l {
		if x > most-sum { // not sum+x: that might be beyond 64 bits
			return most
		}
		sum += x
	}
	return sum
}

// Mid is the number between two, or right below.
func Mid(a, b int) int {
	return a&b + (a^b)>>1 // not (a+b)/2: that might be beyond an int
}
