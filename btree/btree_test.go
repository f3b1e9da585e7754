package btree

import (
	"iter"
	"maps"
	"math"
	"slices"
	"strconv"
	"testing"

	"annals/api"
)

// dice answers numbers that look thrown, the same ones each time.
type dice uint64

func (x *dice) below(n int) int {
	*x = *x*6364136223846793005 + 1442695040888963407
	return int(uint64(*x) >> 33 % uint64(n))
}

func made(t *testing.T, order int, keys ...string) *Tree {
	t.Helper()
	x, e := New(order)
	if e != api.OK || x == nil {
		t.Fatalf("New(%d): %v", order, e)
	}
	for i, key := range keys {
		x.Put(key, int64(i))
	}
	return x
}

// numbered is texts that stand in the order of their numbers.
func numbered(n int) []string {
	var keys []string
	for i := range n {
		keys = append(keys, string([]byte{byte(i >> 8), byte(i)}))
	}
	return keys
}

func told(s iter.Seq2[string, int64]) []item {
	var out []item
	for key, val := range s {
		out = append(out, item{key, val})
	}
	return out
}

// want is what a range of a model gives out.
func want(model map[string]int64, from, to string) []item {
	var out []item
	for _, key := range slices.Sorted(maps.Keys(model)) {
		if key >= from && (to == "" || key < to) {
			out = append(out, item{key, model[key]})
		}
	}
	return out
}

// checkShape holds a tree's shape against the bounds of P9.4.
func checkShape(t *testing.T, x *Tree, order int) {
	t.Helper()
	shape := x.Shape()
	if len(shape) == 0 || len(shape[0]) != 1 {
		t.Fatalf("order %d: Shape has no root: %v", order, shape)
	}
	if len(shape) > 1 && shape[0][0] == 0 {
		t.Fatalf("order %d: the root has no key: %v", order, shape)
	}
	all := 0
	for level, nodes := range shape {
		sum := 0
		for _, keys := range nodes {
			if keys > 2*order-1 || level > 0 && keys < order-1 {
				t.Fatalf("order %d: a node has %d keys: %v", order, keys, shape)
			}
			sum += keys
		}
		if level+1 < len(shape) && len(shape[level+1]) != sum+len(nodes) {
			t.Fatalf("order %d: the kids of level %d are not one more than its keys: %v", order, level, shape)
		}
		all += sum
	}
	if all != x.Len() {
		t.Fatalf("order %d: %d keys in %v, but Len %d", order, all, shape, x.Len())
	}
}

func sameShape(a, b [][]int) bool {
	return slices.EqualFunc(a, b, func(x, y []int) bool { return slices.Equal(x, y) })
}

// P9.1
func TestNew(t *testing.T) {
	for _, order := range []int{math.MinInt, -64, -2, -1, 0, 1, 65, 128, math.MaxInt} {
		if x, e := New(order); x != nil || e != api.ErrRange {
			t.Errorf("New(%d): %v, %v", order, x, e)
		}
	}
	if MaxOrder != 64 {
		t.Errorf("MaxOrder: %d", MaxOrder)
	}
	for order := 2; order <= 64; order++ {
		x := made(t, order)
		if x.Len() != 0 || len(told(x.Range("", ""))) != 0 {
			t.Errorf("New(%d) has keys", order)
		}
		if shape := x.Shape(); !sameShape(shape, [][]int{{0}}) {
			t.Errorf("New(%d): Shape %v", order, shape)
		}
		if val, there := x.Get(""); val != 0 || there || x.Cut("") {
			t.Errorf("New(%d) has the empty text", order)
		}
	}
}

// P9.1, P9.2: two trees are two.
func TestTreesAreApart(t *testing.T) {
	a, b := made(t, 2), made(t, 2)
	a.Put("a", 1)
	if _, there := b.Get("a"); there || b.Len() != 0 {
		t.Error("a tree has what was put into another")
	}
}

// P9.2, and the example of the chapter.
func TestPutGetCut(t *testing.T) {
	x := made(t, 2)
	for _, put := range []struct {
		key   string
		val   int64
		there bool
	}{
		{"b", 1, false}, {"a", 2, false}, {"b", 3, true}, {"", 4, false}, {"", math.MinInt64, true},
		{"\xff\xfe", math.MaxInt64, false}, {"a\x00", -1, false}, {"\x00", 0, false}, {"\x00", 0, true},
	} {
		if there := x.Put(put.key, put.val); there != put.there {
			t.Errorf("Put(%q): %v", put.key, there)
		}
		if val, there := x.Get(put.key); val != put.val || !there {
			t.Errorf("Get(%q): %d, %v", put.key, val, there)
		}
	}
	if x.Len() != 6 {
		t.Errorf("Len: %d", x.Len())
	}
	for _, key := range []string{"A", "ab", "aa", "\xff", "\xff\xfe\x00", "\x00\x00", "c"} {
		if val, there := x.Get(key); val != 0 || there {
			t.Errorf("Get(%q): %d, %v", key, val, there)
		}
		if x.Cut(key) || x.Len() != 6 {
			t.Errorf("Cut(%q) was there", key)
		}
	}
	for i, key := range []string{"b", "", "\xff\xfe", "\x00", "a", "a\x00"} {
		if !x.Cut(key) || x.Cut(key) || x.Len() != 5-i {
			t.Errorf("Cut(%q)", key)
		}
		if val, there := x.Get(key); val != 0 || there {
			t.Errorf("Get(%q) behind Cut: %d, %v", key, val, there)
		}
	}
	if !sameShape(x.Shape(), [][]int{{0}}) {
		t.Errorf("Shape of nothing: %v", x.Shape())
	}
	if x.Put("b", 9) || x.Len() != 1 {
		t.Error("Put behind the last Cut")
	}
}

// P9.2: long texts, and ones that differ in the last byte alone.
func TestLongKeys(t *testing.T) {
	long := make([]byte, 100_000)
	x := made(t, 2, string(long), string(long[1:]))
	long[len(long)-1] = 1
	if x.Put(string(long), 7) || x.Len() != 3 {
		t.Error("a long text is another one")
	}
	if val, there := x.Get(string(long)); val != 7 || !there {
		t.Error("Get of a long text")
	}
}

// P9.3: the bounds, in the order of bytes.
func TestRange(t *testing.T) {
	keys := []string{"", "\x00", "\x00\x00", "A", "a", "a\x00", "a\xff", "ab", "b", "z", "\u00fc", "\xff", "\xff\xff"}
	bounds := append(slices.Clone(keys), "0", "a\x00\x00", "aa", "c", "\xff\x00", "\xff\xff\xff")
	for _, order := range []int{2, 3, 64} {
		x := made(t, order)
		model := map[string]int64{}
		for i, key := range keys {
			x.Put(keys[len(keys)-1-i], int64(len(keys)-1-i))
			model[key] = int64(i)
		}
		for _, from := range bounds {
			for _, to := range bounds {
				if got := told(x.Range(from, to)); !slices.Equal(got, want(model, from, to)) {
					t.Errorf("order %d, Range(%q, %q): %v", order, from, to, got)
				}
			}
		}
		if got := told(x.Range("", "")); len(got) != len(keys) || got[0].key != "" || got[len(keys)-1].key != "\xff\xff" {
			t.Errorf("Range of all: %v", got)
		}
	}
}

// P9.3: no more, when it is told to stop, wherever in the tree that is.
func TestRangeStops(t *testing.T) {
	keys := numbered(100)
	for _, order := range []int{2, 3, 5} {
		x := made(t, order, keys...)
		for stop := range len(keys) {
			var got []string
			x.Range("", "")(func(key string, val int64) bool {
				got = append(got, key)
				return len(got) <= stop
			})
			if !slices.Equal(got, keys[:stop+1]) {
				t.Fatalf("order %d: told to stop at %d, gave out %d", order, stop, len(got))
			}
		}
	}
}

// P9.3: a loop that is left by break and by a label.
func TestRangeLeft(t *testing.T) {
	x := made(t, 2, numbered(50)...)
	pairs := 0
outer:
	for a := range x.Range("", "") {
		for b := range x.Range(a, "") {
			pairs++
			if pairs == 70 {
				break outer
			}
			if b > a {
				break
			}
		}
	}
	if pairs != 70 {
		t.Errorf("%d pairs", pairs)
	}
}

// P9.3: what is put or cut while it goes on.
func TestRangeGoesOnAsItWas(t *testing.T) {
	keys := numbered(60)
	for _, order := range []int{2, 3, 7, 64} {
		for at := range keys {
			x := made(t, order, keys...)
			before := told(x.Range("", ""))
			var got []item
			for key, val := range x.Range("", "") {
				got = append(got, item{key, val})
				if len(got)-1 != at {
					continue
				}
				for i, other := range keys {
					if i%3 == 0 {
						x.Put(other, -1)
					} else {
						x.Cut(other)
					}
					x.Put(other+"more", -2)
				}
			}
			if !slices.Equal(got, before) {
				t.Fatalf("order %d: changed at %d, gave out %v", order, at, got)
			}
			checkShape(t, x, order)
			if after := told(x.Range("", "")); len(after) != x.Len() || len(after) != 80 {
				t.Fatalf("order %d: %d keys behind it, Len %d", order, len(after), x.Len())
			}
		}
	}
}

// P9.3: each key is cut as soon as it is given out, or all at once at the first.
func TestRangeOfWhatIsCut(t *testing.T) {
	keys := numbered(200)
	x := made(t, 2, keys...)
	n := 0
	for key := range x.Range("", "") {
		if key != keys[n] || !x.Cut(key) {
			t.Fatalf("key %d", n)
		}
		n++
		checkShape(t, x, 2)
	}
	if n != 200 || x.Len() != 0 {
		t.Errorf("%d given out, %d left", n, x.Len())
	}
}

// P9.3, P2: an iterator stays that of its call, also when it is ranged over late, or twice.
func TestRangeIsThatOfItsCall(t *testing.T) {
	x := made(t, 2, numbered(30)...)
	before := told(x.Range("", ""))
	held := x.Range("", "")
	x.Put("more", 1)
	x.Put(numbered(5)[4], 99)
	x.Cut(numbered(10)[9])
	for range 2 {
		if got := told(held); !slices.Equal(got, before) {
			t.Fatalf("a held range: %v", got)
		}
	}
	if got := told(x.Range("", "")); slices.Equal(got, before) || len(got) != 30 {
		t.Errorf("a new range: %v", got)
	}
}

// P9.4: rising, falling and mixed, up and down again.
func TestShape(t *testing.T) {
	const count = 700
	mixed := make([]int, count)
	for i := range mixed {
		mixed[i] = i * 389 % count
	}
	rising, falling := make([]int, count), make([]int, count)
	for i := range count {
		rising[i], falling[i] = i, count-1-i
	}
	keys := numbered(count)
	for _, order := range []int{2, 3, 4, 5, 8, 63, 64} {
		for _, up := range [][]int{rising, falling, mixed} {
			for _, down := range [][]int{rising, falling, mixed} {
				x := made(t, order)
				for _, i := range up {
					x.Put(keys[i], int64(i))
					checkShape(t, x, order)
				}
				if len(x.Shape()) < 2 {
					t.Fatalf("order %d: one level for %d keys", order, count)
				}
				for n, i := range down {
					if val, there := x.Get(keys[i]); val != int64(i) || !there {
						t.Fatalf("order %d: Get of key %d: %d, %v", order, i, val, there)
					}
					if !x.Cut(keys[i]) || x.Len() != count-1-n {
						t.Fatalf("order %d: Cut of key %d", order, i)
					}
					checkShape(t, x, order)
				}
			}
		}
	}
}

// P9.4: as few keys as one node can have, but two can't, are on one level; more than one node can have are not.
func TestShapeOfFewKeys(t *testing.T) {
	for _, order := range []int{2, 3, 64} {
		x := made(t, order)
		for i, key := range numbered(2 * order) {
			x.Put(key, 0)
			shape := x.Shape()
			if full := 2*order - 1; i+1 < full && len(shape) != 1 || i+1 > full && len(shape) != 2 {
				t.Errorf("order %d: %d keys: %v", order, i+1, shape)
			}
			checkShape(t, x, order)
		}
	}
}

// P9.2, P9.4: what changes no key leaves the nodes as they are.
func TestShapeOfNoChange(t *testing.T) {
	keys := numbered(120)
	for _, order := range []int{2, 3, 9} {
		x := made(t, order, keys...)
		before := x.Shape()
		for i, key := range keys {
			if x.Cut(key + "x") {
				t.Fatal("Cut of what isn't there")
			}
			if !x.Put(key, int64(-i)) {
				t.Fatal("Put of what is there")
			}
			x.Get(key)
			told(x.Range(key, ""))
			if !sameShape(x.Shape(), before) {
				t.Fatalf("order %d: Shape %v, was %v", order, x.Shape(), before)
			}
		}
		for i, key := range keys {
			if val, _ := x.Get(key); val != int64(-i) {
				t.Fatalf("order %d: key %d has %d", order, i, val)
			}
		}
	}
}

// P2: what Shape answers is the caller's.
func TestShapeIsNewMemory(t *testing.T) {
	x := made(t, 2, numbered(40)...)
	first, second := x.Shape(), x.Shape()
	var kept [][]int
	for _, level := range second {
		kept = append(kept, slices.Clone(level))
	}
	for i, level := range first {
		clear(level[:cap(level)])
		first[i] = nil
	}
	clear(first[:cap(first)])
	if !sameShape(second, kept) || !sameShape(x.Shape(), kept) {
		t.Error("Shape shares its memory")
	}
	for i := range second {
		for j := range second {
			if i != j && &second[i][0] == &second[j][0] {
				t.Error("two levels share memory")
			}
		}
	}
	checkShape(t, x, 2)
}

// heldRange is a range that goes on later, and what it must give out then.
type heldRange struct {
	seq  iter.Seq2[string, int64]
	want []item
}

// P9.2, P9.3, P9.4, P2: many calls, held against a map; ranges that were asked for long ago go on as it was then.
func TestModel(t *testing.T) {
	x := dice(9)
	deep, cuts, puts := 0, 0, 0
	for _, order := range []int{2, 2, 3, 4, 6, 11, 64} {
		tree := made(t, order)
		model := map[string]int64{}
		var held []heldRange
		span := 40 + x.below(400)
		for step := range 6000 {
			if step%1500 == 0 {
				span = 10 + x.below(600)
			}
			key := strconv.Itoa(x.below(span))
			old, was := model[key]
			switch what := x.below(20); {
			case what < 9-step/1500%2*4:
				val := int64(x.below(1000)) - 500
				if tree.Put(key, val) != was {
					t.Fatalf("order %d: Put(%q) was not %v", order, key, was)
				}
				model[key] = val
				puts++
			case what < 15:
				if tree.Cut(key) != was {
					t.Fatalf("order %d: Cut(%q) was not %v", order, key, was)
				}
				delete(model, key)
				if was {
					cuts++
				}
			case what < 17:
				if val, there := tree.Get(key); val != old || there != was {
					t.Fatalf("order %d: Get(%q): %d, %v", order, key, val, there)
				}
			default:
				from, to := key, strconv.Itoa(x.below(span))
				if x.below(3) == 0 {
					to = ""
				}
				held = append(held, heldRange{tree.Range(from, to), want(model, from, to)})
			}
			if len(held) > 8 {
				i := x.below(len(held))
				if got := told(held[i].seq); !slices.Equal(got, held[i].want) {
					t.Fatalf("order %d: a held range gave out %v, want %v", order, got, held[i].want)
				}
				held = slices.Delete(held, i, i+1)
			}
			if tree.Len() != len(model) {
				t.Fatalf("order %d: Len %d, want %d", order, tree.Len(), len(model))
			}
			checkShape(t, tree, order)
			deep = max(deep, len(tree.Shape()))
		}
		if got := told(tree.Range("", "")); !slices.Equal(got, want(model, "", "")) {
			t.Fatalf("order %d: at the end %v", order, got)
		}
	}
	if deep < 5 || cuts < 5000 || puts < 10000 {
		t.Errorf("too little was tried: %d levels, %d cuts, %d puts", deep, cuts, puts)
	}
}

// P9.2, P9.4: seven keys, put and cut in every order.
func TestEveryOrder(t *testing.T) {
	keys := numbered(7)
	var orders [][]int
	var fill func(done []int)
	fill = func(done []int) {
		if len(done) == len(keys) {
			orders = append(orders, slices.Clone(done))
			return
		}
		for i := range keys {
			if !slices.Contains(done, i) {
				fill(append(done, i))
			}
		}
	}
	fill(nil)
	for at, up := range orders {
		down := orders[(at*31+17)%len(orders)]
		x := made(t, 2)
		for _, i := range up {
			x.Put(keys[i], int64(i))
		}
		checkShape(t, x, 2)
		left := slices.Clone(keys)
		for _, i := range down {
			x.Cut(keys[i])
			checkShape(t, x, 2)
			left = slices.DeleteFunc(left, func(key string) bool { return key == keys[i] })
			var got []string
			for key := range x.Range("", "") {
				got = append(got, key)
			}
			if !slices.Equal(got, left) {
				t.Fatalf("up %v, down %v: %q left", up, down, got)
			}
		}
	}
}

// P1: many ranges, none of them ranged over, and many keys.
func TestGreatTree(t *testing.T) {
	for _, order := range []int{2, 64} {
		x := made(t, order)
		for i := range 200_000 {
			x.Put(strconv.Itoa(i*7919%200_000), int64(i))
			if i%100 == 0 {
				x.Range("", "")
			}
		}
		if x.Len() != 200_000 {
			t.Fatalf("Len: %d", x.Len())
		}
		checkShape(t, x, order)
		for range 200_000 {
			for range x.Range("1", "") {
				break
			}
		}
	}
}
