package sat

import (
	"math/rand"
	"testing"
)

// The place that is taken is always one of the most active ones that are in, through growing and shrinking gains.
func TestOrder(t *testing.T) {
	r := rand.New(rand.NewSource(1))
	n := 50
	o := newOrder(n)
	in := make([]bool, n)
	for i := range in {
		in[i] = true
	}
	so := n
	for step := range 20000 {
		switch place := r.Intn(n); r.Intn(4) {
		case 0:
			o.put(place)
			if !in[place] {
				in[place] = true
				so++
			}
		case 1:
			o.raise(place)
		case 2:
			o.decay()
		case 3:
			if so == 0 {
				continue
			}
			got := o.take()
			if !in[got] {
				t.Fatalf("step %d: %d isn't in", step, got)
			}
			for i, is := range in {
				if is && o.activity[i] > o.activity[got] {
					t.Fatalf("step %d: %d was taken, %d is more active", step, got, i)
				}
			}
			in[got] = false
			so--
		}
		if len(o.heap) != so || o.gain < 16 || o.gain >= mostGain {
			t.Fatalf("step %d: %d in, %d wanted; gain %d", step, len(o.heap), so, o.gain)
		}
	}
}
