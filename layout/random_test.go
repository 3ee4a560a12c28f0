package layout

import (
	"math/rand"
	"reflect"
	"testing"

	"mortise/api"
	"mortise/desc"
	"mortise/parse"
	"mortise/samples"
)

// same holds Layout against the model, and returns what that returns.
func same(t *testing.T, d api.Desc, v api.Node, limit int) (string, api.Errno, api.Node) {
	t.Helper()
	b, regions, want, x := model(d, v, limit)
	s, l, e := Layout(d, v, limit)
	if s != b || e != want || showRegions(l) != showRegions(regions) || e != api.OK && l != nil {
		text, _ := desc.Print(d)
		t.Errorf("%s%s, %d: %q, %s, %d, not %q, %s, %d", text, show(v), limit, s, showRegions(l), e, b, showRegions(regions), want)
	}
	return b, want, x
}

// parts are pointers to all nodes of a node.
func parts(x *api.Node) []*api.Node {
	l := []*api.Node{x}
	for i := range x.L {
		l = append(l, parts(&x.L[i])...)
	}
	return l
}

// copied is a node that shares no list with another one.
func copied(x api.Node) api.Node {
	y := api.Node{N: x.N, S: x.S}
	for _, z := range x.L {
		y.L = append(y.L, copied(z))
	}
	return y
}

// changed is a node of which one part is another one.
func changed(r *rand.Rand, v api.Node) api.Node {
	v = copied(v)
	l := parts(&v)
	x := l[r.Intn(len(l))]
	switch r.Intn(7) {
	case 0:
		x.N = uint64(r.Intn(4))
	case 1:
		x.N = 1<<(8<<r.Intn(4)) - uint64(r.Intn(2))
	case 2:
		x.S += "x"
	case 3:
		x.S = ""
	case 4:
		x.L = append(x.L, copied(*l[r.Intn(len(l))]))
	case 5:
		x.L = x.L[:r.Intn(len(x.L)+1)]
	case 6:
		*x = copied(*l[r.Intn(len(l))])
	}
	return v
}

func TestP15_1Random(t *testing.T) {
	random := rand.New(rand.NewSource(151))
	errors, autos := map[api.Errno]int{}, map[int]int{}
	at, shared := 0, 0
	for range 3000 {
		d := samples.Desc(random.Intn)
		v := samples.Node(random.Intn, d)
		for range 6 {
			b, e, _ := same(t, d, v, most)
			errors[e]++
			if e == api.OK {
				for _, f := range d.Recs[0].Fields {
					autos[f.Auto]++
					if f.At != "" {
						at++
					}
					if f.Shared {
						shared++
					}
				}
				for _, limit := range []int{0, len(b) - 1, len(b), random.Intn(len(b) + 1)} {
					if limit >= 0 {
						_, e, _ := same(t, d, v, limit)
						errors[e]++
					}
				}
				v = changed(random, v)
			} else {
				_, e, _ := same(t, d, v, random.Intn(30))
				errors[e]++
				v = samples.Node(random.Intn, d)
			}
		}
	}
	for _, e := range []api.Errno{api.OK, api.ErrType, api.ErrField, api.ErrLimit} {
		if errors[e] < 200 {
			t.Errorf("error %d: %d times", e, errors[e])
		}
	}
	for k := api.AutoNone; k <= api.AutoAdler; k++ {
		if autos[k] < 100 {
			t.Errorf("computed %d: %d times", k, autos[k])
		}
	}
	if at < 100 || shared < 50 {
		t.Errorf("%d elsewhere, %d shared", at, shared)
	}
}

// TestP15_2Random: what is laid out is read as the node with all computed numbers in place, with the same regions, and laid out as the same bytes again.
func TestP15_2Random(t *testing.T) {
	random := rand.New(rand.NewSource(152))
	n := 0
	for range 4000 {
		d := samples.Desc(random.Intn)
		v := samples.Node(random.Intn, d)
		b, e, want := same(t, d, v, most)
		if e != api.OK {
			continue
		}
		n++
		_, l, _ := Layout(d, v, most)
		x, k, e := parse.Parse(d, b, api.MaxFuel)
		if e != api.OK || show(x) != show(want) || showRegions(k) != showRegions(l) {
			t.Errorf("%s: %q: %s, %s, %d, not %s, %s", show(v), b, show(x), showRegions(k), e, show(want), showRegions(l))
		}
		if again, m, e := Layout(d, x, len(b)); again != b || e != api.OK || showRegions(m) != showRegions(l) {
			t.Errorf("%s: %q, %s, %d, not %q, %s", show(x), again, showRegions(m), e, b, showRegions(l))
		}
	}
	if n < 1000 {
		t.Errorf("%d nodes were laid out", n)
	}
}

// TestR5Memory: arguments are as they were, and no list of a result shares memory with another one, with spare capacity included.
func TestR5Memory(t *testing.T) {
	random := rand.New(rand.NewSource(153))
	for range 1000 {
		d := samples.Desc(random.Intn)
		v := samples.Node(random.Intn, d)
		description, node := samples.Copy(d), copied(v)
		s, l, e := Layout(d, v, most)
		if !reflect.DeepEqual(samples.Copy(d), description) || show(v) != show(node) {
			t.Errorf("%v, %s", d, show(v))
		}
		regions := showRegions(l)
		for i := range l {
			_ = append(l[i].Path, 99)
		}
		_ = append(l, api.Region{Lo: 99})
		if showRegions(l) != regions {
			t.Errorf("%s, not %s", showRegions(l), regions)
		}
		for i := range l {
			for k := range l[i].Path {
				l[i].Path[k]++
			}
		}
		if again, m, f := Layout(d, v, most); again != s || showRegions(m) != regions || f != e { // R6
			t.Errorf("%q, %s, %d, not %q, %s, %d", again, showRegions(m), f, s, regions, e)
		}
	}
}
