package num_test

import (
	"bytes"
	"encoding/binary"
	"math"
	"slices"
	"testing"

	"cambium/num"
)

// unsigned: the edges of every byte that a short number, or one in order, gains, and what stands between.
func unsigned() []uint64 {
	out := []uint64{0, 1, 2, 5, 77, 300, 1000, 123456789, math.MaxUint64 - 1, math.MaxUint64}
	for bit := range 64 {
		p := uint64(1) << bit
		out = append(out, p-1, p, p+1)
	}
	// A row without a random source: each step mixes all bits.
	x := uint64(1)
	for range 500 {
		x = x*6364136223846793005 + 1442695040888963407
		out = append(out, x, x>>(x>>58))
	}
	slices.Sort(out)
	return slices.Compact(out)
}

// signed: the same edges, on both sides of 0.
func signed() []int64 {
	var out []int64
	for _, v := range unsigned() {
		out = append(out, int64(v), -int64(v))
	}
	slices.Sort(out)
	return slices.Compact(out)
}

func TestPutIsTheShortNumber(t *testing.T) { // P1.1
	for _, c := range []struct {
		v    uint64
		want []byte
	}{
		{0, []byte{0}},
		{1, []byte{1}},
		{127, []byte{0x7f}},
		{128, []byte{0x80, 1}},
		{300, []byte{0xac, 0x02}},
		{16383, []byte{0xff, 0x7f}},
		{16384, []byte{0x80, 0x80, 1}},
		{1 << 32, []byte{0x80, 0x80, 0x80, 0x80, 0x10}},
		{1<<63 - 1, []byte{255, 255, 255, 255, 255, 255, 255, 255, 0x7f}},
		{1 << 63, []byte{128, 128, 128, 128, 128, 128, 128, 128, 128, 1}},
		{math.MaxUint64, []byte{255, 255, 255, 255, 255, 255, 255, 255, 255, 1}},
	} {
		if b := num.Put(c.v); !bytes.Equal(b, c.want) {
			t.Errorf("P1.1: Put(%d): % x, want % x", c.v, b, c.want)
		}
	}
	for _, v := range unsigned() {
		if b, want := num.Put(v), binary.AppendUvarint(nil, v); !bytes.Equal(b, want) {
			t.Errorf("P1.1: Put(%d): % x, want % x", v, b, want)
		}
	}
}

func TestGetReadsTheBeginning(t *testing.T) { // P1.1
	for _, c := range []struct {
		b []byte
		v uint64
		n int
	}{
		{[]byte{0}, 0, 1},
		{[]byte{0, 0}, 0, 1},
		{[]byte{0, 0x80}, 0, 1},
		{[]byte{0x7f, 0xff}, 127, 1},
		{[]byte{0xac, 0x02, 0x07}, 300, 2},
		{[]byte{0x80, 0x01, 0x80}, 128, 2},
		{[]byte{0x80, 0x80, 0x01}, 16384, 3},
		{[]byte{128, 128, 128, 128, 128, 128, 128, 128, 1}, 1 << 56, 9},
		{[]byte{128, 128, 128, 128, 128, 128, 128, 128, 128, 1}, 1 << 63, 10},
		{[]byte{255, 255, 255, 255, 255, 255, 255, 255, 255, 1, 255}, math.MaxUint64, 10},
	} {
		if v, n := num.Get(c.b); v != c.v || n != c.n {
			t.Errorf("P1.1: Get(% x): %d, %d, want %d, %d", c.b, v, n, c.v, c.n)
		}
	}
}

// wrongShorts: bytes with which no short number begins.
func wrongShorts() map[string][]byte {
	out := map[string][]byte{
		"nil":                    nil,
		"empty":                  {},
		"ends within 1":          {0x80},
		"ends within 2":          {0xac, 0x82},
		"ends within 9":          bytes.Repeat([]byte{255}, 9),
		"ends within 10":         bytes.Repeat([]byte{255}, 10),
		"longer, 2 bytes":        {0x80, 0x00},
		"longer, 2 bytes, not 0": {0xff, 0x00},
		"longer, 3 bytes":        {0xac, 0x82, 0x00},
		"longer, more behind":    {0x80, 0x00, 0x01},
		"longer, 10 bytes":       append(bytes.Repeat([]byte{255}, 9), 0),
		"longer, 11 bytes":       append(bytes.Repeat([]byte{128}, 10), 0),
		"longer, 11, beyond 1":   append(bytes.Repeat([]byte{255}, 9), 0x81, 0),
		"beyond, 2":              append(bytes.Repeat([]byte{255}, 9), 2),
		"beyond, 2^64":           append(bytes.Repeat([]byte{128}, 9), 2),
		"beyond, 3":              append(bytes.Repeat([]byte{255}, 9), 3),
		"beyond, 7f":             append(bytes.Repeat([]byte{255}, 9), 0x7f),
		"beyond, 11 bytes":       append(bytes.Repeat([]byte{255}, 10), 1),
		"beyond, 2^70":           append(bytes.Repeat([]byte{128}, 10), 1),
		"beyond, 20 bytes":       append(bytes.Repeat([]byte{128}, 19), 1),
	}
	return out
}

func TestGetOfWrongBytes(t *testing.T) { // P1.1
	for name, b := range wrongShorts() {
		if v, n := num.Get(b); v != 0 || n != 0 {
			t.Errorf("P1.1: Get(% x), %s: %d, %d, want 0, 0", b, name, v, n)
		}
		if v, n := num.GetInt(b); v != 0 || n != 0 {
			t.Errorf("P1.1: GetInt(% x), %s: %d, %d, want 0, 0", b, name, v, n)
		}
	}
	for _, v := range unsigned() {
		whole := num.Put(v)
		for cut := range len(whole) {
			if x, n := num.Get(whole[:cut]); x != 0 || n != 0 {
				t.Errorf("P1.1: Get(% x), cut: %d, %d, want 0, 0", whole[:cut], x, n)
			}
		}
		longer := slices.Concat(whole[:len(whole)-1], []byte{whole[len(whole)-1] | 0x80, 0})
		if x, n := num.Get(longer); x != 0 || n != 0 {
			t.Errorf("P1.1: Get(% x), longer: %d, %d, want 0, 0", longer, x, n)
		}
	}
}

// TestGetOfAllShortRows: a row of at most two bytes, whatever it is, is what the chapter's words make of it.
func TestGetOfAllShortRows(t *testing.T) { // P1.1
	for first := range 256 {
		for second := range 256 {
			var want uint64
			wantLen := 0
			if first < 128 {
				want, wantLen = uint64(first), 1
			} else if second > 0 && second < 128 {
				want, wantLen = uint64(second)*128+uint64(first)-128, 2
			}
			b := []byte{byte(first), byte(second)}
			if v, n := num.Get(b); v != want || n != wantLen {
				t.Errorf("P1.1: Get(% x): %d, %d, want %d, %d", b, v, n, want, wantLen)
			}
		}
	}
}

func TestPutIntIsTheShortNumberWithASign(t *testing.T) { // P1.1
	for _, c := range []struct {
		v    int64
		want uint64
	}{
		{0, 0}, {-1, 1}, {1, 2}, {-2, 3}, {2, 4}, {63, 126}, {-64, 127}, {64, 128}, {-65, 129}, {-150, 299}, {150, 300},
		{1 << 62, 1 << 63}, {-1 << 62, 1<<63 - 1},
		{math.MaxInt64, math.MaxUint64 - 1}, {math.MinInt64 + 1, math.MaxUint64 - 2}, {math.MinInt64, math.MaxUint64},
	} {
		b := num.PutInt(c.v)
		if want := binary.AppendUvarint(nil, c.want); !bytes.Equal(b, want) {
			t.Errorf("P1.1: PutInt(%d): % x, want % x", c.v, b, want)
		}
		if v, n := num.GetInt(append(b, 0xff, 0)); v != c.v || n != len(b) {
			t.Errorf("P1.1: GetInt(% x): %d, %d, want %d, %d", b, v, n, c.v, len(b))
		}
	}
	if b := num.PutInt(-1); !bytes.Equal(b, []byte{1}) {
		t.Errorf("P1.1: PutInt(-1): % x", b)
	}
}

func TestKeyIsGreatestFirst(t *testing.T) { // P1.2
	for _, c := range []struct {
		v    uint64
		want []byte
	}{
		{0, []byte{0, 0, 0, 0, 0, 0, 0, 0}},
		{5, []byte{0, 0, 0, 0, 0, 0, 0, 5}},
		{300, []byte{0, 0, 0, 0, 0, 0, 1, 44}},
		{0x0102030405060708, []byte{1, 2, 3, 4, 5, 6, 7, 8}},
		{1 << 63, []byte{128, 0, 0, 0, 0, 0, 0, 0}},
		{math.MaxUint64, bytes.Repeat([]byte{255}, 8)},
	} {
		if b := num.Key(c.v); !bytes.Equal(b, c.want) {
			t.Errorf("P1.2: Key(%d): % x, want % x", c.v, b, c.want)
		}
		if v, ok := num.Unkey(c.want); v != c.v || !ok {
			t.Errorf("P1.2: Unkey(% x): %d, %v", c.want, v, ok)
		}
	}
}

func TestKeyIntIsLifted(t *testing.T) { // P1.2
	for _, c := range []struct {
		v    int64
		want []byte
	}{
		{math.MinInt64, make([]byte, 8)},
		{math.MinInt64 + 1, []byte{0, 0, 0, 0, 0, 0, 0, 1}},
		{-1, []byte{0x7f, 255, 255, 255, 255, 255, 255, 255}},
		{0, []byte{0x80, 0, 0, 0, 0, 0, 0, 0}},
		{1, []byte{0x80, 0, 0, 0, 0, 0, 0, 1}},
		{math.MaxInt64, bytes.Repeat([]byte{255}, 8)},
	} {
		if b := num.KeyInt(c.v); !bytes.Equal(b, c.want) {
			t.Errorf("P1.2: KeyInt(%d): % x, want % x", c.v, b, c.want)
		}
		if v, ok := num.UnkeyInt(c.want); v != c.v || !ok {
			t.Errorf("P1.2: UnkeyInt(% x): %d, %v", c.want, v, ok)
		}
	}
}

func TestUnkeyOfOtherLengths(t *testing.T) { // P1.2
	for n := range 20 {
		b := bytes.Repeat([]byte{0xa5}, n)
		v, ok := num.Unkey(b)
		if ok != (n == 8) || !ok && v != 0 {
			t.Errorf("P1.2: Unkey of %d bytes: %d, %v", n, v, ok)
		}
		x, ok := num.UnkeyInt(b)
		if ok != (n == 8) || !ok && x != 0 {
			t.Errorf("P1.2: UnkeyInt of %d bytes: %d, %v", n, x, ok)
		}
	}
	if v, ok := num.Unkey(nil); v != 0 || ok {
		t.Errorf("P1.2: Unkey(nil): %d, %v", v, ok)
	}
	if v, ok := num.UnkeyInt(nil); v != 0 || ok {
		t.Errorf("P1.2: UnkeyInt(nil): %d, %v", v, ok)
	}
}

func TestPut32AndGet32(t *testing.T) { // P1.2
	for _, c := range []struct {
		v    uint32
		want []byte
	}{
		{0, []byte{0, 0, 0, 0}},
		{77, []byte{0, 0, 0, 77}},
		{0x01020304, []byte{1, 2, 3, 4}},
		{1 << 31, []byte{128, 0, 0, 0}},
		{math.MaxUint32, []byte{255, 255, 255, 255}},
	} {
		if b := num.Put32(c.v); !bytes.Equal(b, c.want) {
			t.Errorf("P1.2: Put32(%d): % x, want % x", c.v, b, c.want)
		}
		if v := num.Get32(c.want); v != c.v {
			t.Errorf("P1.2: Get32(% x): %d, want %d", c.want, v, c.v)
		}
	}
	for _, c := range []struct {
		b []byte
		v uint32
	}{
		{nil, 0},
		{[]byte{}, 0},
		{[]byte{1}, 1 << 24},
		{[]byte{1, 2}, 0x01020000},
		{[]byte{1, 2, 3}, 0x01020300},
		{[]byte{255, 255, 255}, 0xffffff00},
		{[]byte{1, 2, 3, 4, 5}, 0x01020304},
		{[]byte{0, 0, 0, 0, 9, 9, 9, 9, 9}, 0},
	} {
		if v := num.Get32(c.b); v != c.v {
			t.Errorf("P1.2: Get32(% x): %x, want %x", c.b, v, c.v)
		}
	}
}

func TestWhatIsPutIsGot(t *testing.T) { // P1.3
	behind := [][]byte{nil, {0}, {1}, {0x7f}, {0x80}, {0xff}, bytes.Repeat([]byte{255}, 12), make([]byte, 12)}
	for _, v := range unsigned() {
		for _, more := range behind {
			b := num.Put(v)
			if x, n := num.Get(slices.Concat(b, more)); x != v || n != len(b) {
				t.Errorf("P1.3: Get(Put(%d)), % x behind: %d, %d", v, more, x, n)
			}
			w := uint32(v)
			if x := num.Get32(slices.Concat(num.Put32(w), more)); x != w {
				t.Errorf("P1.3: Get32(Put32(%d)), % x behind: %d", w, more, x)
			}
		}
		if x, ok := num.Unkey(num.Key(v)); x != v || !ok {
			t.Errorf("P1.3: Unkey(Key(%d)): %d, %v", v, x, ok)
		}
	}
	for _, v := range signed() {
		for _, more := range behind {
			b := num.PutInt(v)
			if x, n := num.GetInt(slices.Concat(b, more)); x != v || n != len(b) {
				t.Errorf("P1.3: GetInt(PutInt(%d)), % x behind: %d, %d", v, more, x, n)
			}
		}
		if x, ok := num.UnkeyInt(num.KeyInt(v)); x != v || !ok {
			t.Errorf("P1.3: UnkeyInt(KeyInt(%d)): %d, %v", v, x, ok)
		}
	}
}

func TestBytesStandInOrder(t *testing.T) { // P1.3
	all := unsigned()
	for i := 1; i < len(all); i++ {
		if bytes.Compare(num.Key(all[i-1]), num.Key(all[i])) >= 0 {
			t.Errorf("P1.3: Key(%d) isn't ahead of Key(%d)", all[i-1], all[i])
		}
	}
	with := signed()
	for i := 1; i < len(with); i++ {
		if bytes.Compare(num.KeyInt(with[i-1]), num.KeyInt(with[i])) >= 0 {
			t.Errorf("P1.3: KeyInt(%d) isn't ahead of KeyInt(%d)", with[i-1], with[i])
		}
	}
}

// TestArgumentsStay: what is handed in isn't changed, its spare room neither.
func TestArgumentsStay(t *testing.T) {
	for n := range 12 {
		room := bytes.Repeat([]byte{0xd3}, 24)
		b := room[:n]
		num.Get(b)
		num.GetInt(b)
		num.Unkey(b)
		num.UnkeyInt(b)
		num.Get32(b)
		if !bytes.Equal(room, bytes.Repeat([]byte{0xd3}, 24)) {
			t.Errorf("%d bytes: changed to % x", n, room)
		}
	}
}

// TestAnswersAreNew: an answer that is written over, its spare room too, is told as before by the next call.
func TestAnswersAreNew(t *testing.T) {
	calls := map[string]func() []byte{
		"Put":    func() []byte { return num.Put(1 << 40) },
		"PutInt": func() []byte { return num.PutInt(-1 << 40) },
		"Key":    func() []byte { return num.Key(1 << 40) },
		"KeyInt": func() []byte { return num.KeyInt(-1 << 40) },
		"Put32":  func() []byte { return num.Put32(1 << 20) },
	}
	for name, call := range calls {
		first, second := call(), call()
		want := slices.Clone(second)
		clear(first[:cap(first)])
		if !bytes.Equal(second, want) || !bytes.Equal(call(), want) {
			t.Errorf("%s: answers share memory", name)
		}
	}
}
