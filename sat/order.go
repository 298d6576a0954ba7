package sat

const (
	// firstGain: what a number gains by standing in a conflict. It grows, so that late conflicts count for more than early ones.
	firstGain = 1 << 10
	// mostGain: all is made smaller when the gain has come to it, or sums would leave 64 bits: a number gains at most once a conflict, and so has at most some 17 times the gain.
	mostGain = 1 << 56
	// shrink: by so many bits.
	shrink = 40
)

// order tells numbers' places by their activity, the most active one first.
type order struct {
	activity []uint64
	gain     uint64
	heap     []int // none is less active than the two at twice its index, and 1 and 2 more
	index    []int // by places: where it stands in the heap, or none
}

func newOrder(n int) *order {
	o := &order{activity: make([]uint64, n), gain: firstGain, heap: make([]int, n), index: make([]int, n)}
	for i := range n {
		o.heap[i], o.index[i] = i, i
	}
	return o
}

// raise tells that a place stood in a conflict.
func (o *order) raise(place int) {
	o.activity[place] += o.gain
	if o.index[place] != none {
		o.up(o.index[place])
	}
}

// decay lets earlier conflicts count for less.
func (o *order) decay() {
	o.gain += o.gain / 16
	if o.gain < mostGain {
		return
	}
	o.gain >>= shrink
	for i := range o.activity {
		o.activity[i] >>= shrink
	}
}

// take takes the most active place out.
func (o *order) take() int {
	top, last := o.heap[0], len(o.heap)-1
	o.swap(0, last)
	o.heap = o.heap[:last]
	o.index[top] = none
	o.down(0)
	return top
}

// put puts a place in, if it isn't there.
func (o *order) put(place int) {
	if o.index[place] != none {
		return
	}
	o.index[place] = len(o.heap)
	o.heap = append(o.heap, place)
	o.up(o.index[place])
}

func (o *order) up(i int) {
	for i > 0 && o.ahead(i, (i-1)/2) {
		o.swap(i, (i-1)/2)
		i = (i - 1) / 2
	}
}

func (o *order) down(i int) {
	for {
		first := i
		for _, j := range [2]int{2*i + 1, 2*i + 2} {
			if j < len(o.heap) && o.ahead(j, first) {
				first = j
			}
		}
		if first == i {
			return
		}
		o.swap(i, first)
		i = first
	}
}

// ahead tells whether the place at i is more active than the one at j.
func (o *order) ahead(i, j int) bool { return o.activity[o.heap[i]] > o.activity[o.heap[j]] }

func (o *order) swap(i, j int) {
	o.heap[i], o.heap[j] = o.heap[j], o.heap[i]
	o.index[o.heap[i]], o.index[o.heap[j]] = i, j
}
