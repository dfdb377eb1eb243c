package ceiling

import (
	"gloaming/book"
	"gloaming/rules"
)

// most is how many orders of a side are planned for.
const most = 60

// flow is a plan while it grows: the greatest flow from buys to sells.
type flow struct {
	rules       rules.Rules
	buys, sells []book.Order
	used        [most][most]int // of each buy, by sells
	leftBuys    map[int]int     // by places
	leftSells   map[int]int
}

func start(r rules.Rules, buys, sells []book.Order) *flow {
	f := &flow{rules: r, leftBuys: map[int]int{}, leftSells: map[int]int{}}
	f.buys, f.sells = buys[:min(len(buys), most)], sells[:min(len(sells), most)]
	for i, o := range f.buys {
		f.leftBuys[i] = o.Left
	}
	for j, o := range f.sells {
		f.leftSells[j] = o.Left
	}
	return f
}

// way is by whom each order was reached from a buy of which something is left; -1: by nobody.
type way struct{ buys, sells [most]int }

// root marks a buy from which a way begins.
const root = most

// begin marks all buys from which a way may begin, and which these are.
func (f *flow) begin() (way, []int) {
	var w way
	var first []int
	for i := range most {
		w.buys[i], w.sells[i] = -1, -1
	}
	for i := range f.buys {
		if f.leftBuys[i] > 0 {
			w.buys[i] = root
			first = append(first, i)
		}
	}
	return w, first
}

// push seeks the shortest way to a sell of which something is left, be it by taking parts off others, and uses it; false: there is none.
func (f *flow) push() bool {
	w, next := f.begin()
	for len(next) > 0 {
		i := next[0]
		next = next[1:]
		for j, sell := range f.sells {
			if w.sells[j] >= 0 || !together(f.rules, f.buys[i], sell) {
				continue
			}
			w.sells[j] = i
			if f.leftSells[j] > 0 {
				f.use(w, j)
				return true
			}
			for k := range f.buys {
				if w.buys[k] < 0 && f.used[k][j] > 0 {
					w.buys[k] = j
					next = append(next, k)
				}
			}
		}
	}
	return false
}

// use lets as much as may be go the way to a sell.
func (f *flow) use(w way, last int) {
	qty := f.leftSells[last]
	i := w.sells[last]
	for ; w.buys[i] != root; i = w.sells[w.buys[i]] {
		qty = min(qty, f.used[i][w.buys[i]])
	}
	qty = min(qty, f.leftBuys[i])
	f.leftBuys[i] -= qty
	f.leftSells[last] -= qty
	for j := last; ; {
		i := w.sells[j]
		f.used[i][j] += qty
		if j = w.buys[i]; j == root {
			return
		}
		f.used[i][j] -= qty
	}
}
