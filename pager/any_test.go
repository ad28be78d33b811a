package pager_test

import (
	"bytes"
	"encoding/binary"
	"math/rand"
	"slices"
	"testing"

	"cambium/api"
	"cambium/disk"
	"cambium/page"
	"cambium/pager"
)

// plain is a pager, its pool and its disk by the chapter's words, done apart: a row for each page.
type plain struct {
	capacity, high int
	gen, horizon   uint64
	rows           [32]plainRow
	waits          []int
	left           int // acts till the power goes; 0, if nothing is armed
	down           bool
}

type plainRow struct {
	freed  bool
	gen    uint64
	fresh  bool
	says   []byte // what it says while it is fresh, filled up
	onDisk []byte // what the disk's page says, filled up; none, if it can't be opened, or there is no such page
	exists bool   // whether the disk has it
}

func (p *plain) put(says []byte) (int, api.Code) {
	if len(says) > 1016 {
		return 0, api.Arg
	}
	for no := 2; no < p.high; no++ {
		if r := &p.rows[no]; r.freed && r.gen <= p.horizon {
			r.freed, r.fresh, r.says = false, true, filled(says)
			return no, api.OK
		}
	}
	if p.high == p.capacity {
		return 0, api.Full
	}
	r := &p.rows[p.high]
	r.freed, r.fresh, r.says = false, true, filled(says)
	p.high++
	return p.high - 1, api.OK
}

func (p *plain) set(no int, says []byte) api.Code {
	if no < 0 || no >= len(p.rows) || !p.rows[no].fresh || len(says) > 1016 {
		return api.Arg
	}
	p.rows[no].says = filled(says)
	return api.OK
}

func (p *plain) drop(no int) {
	if no < 2 || no >= p.high {
		return
	}
	r := &p.rows[no]
	switch {
	case r.fresh:
		r.fresh, r.freed, r.gen = false, true, 0
	case !r.freed:
		r.freed, r.gen = true, p.gen
	}
}

// putChain: by numbers of bytes and pages that are counted one by one.
func (p *plain) putChain(val []byte) (int, api.Code) {
	if len(val) == 0 || len(val) > 16384 {
		return 0, api.Arg
	}
	var parts [][]byte
	for len(val) > 1010 {
		parts = append(parts, val[:1010])
		val = val[1010:]
	}
	parts = append(parts, val)
	next := 0
	var put []int
	for i := len(parts) - 1; i >= 0; i-- {
		says := binary.BigEndian.AppendUint32(nil, uint32(next))
		says = binary.BigEndian.AppendUint16(says, uint16(len(parts[i])))
		no, e := p.put(append(says, parts[i]...))
		if e != api.OK {
			for _, no := range put {
				p.drop(no)
			}
			return 0, e
		}
		put = append(put, no)
		next = no
	}
	return next, api.OK
}

// chain: with as many pages as need be found by counting bytes off. Sizes are small here.
func (p *plain) chain(head, size int) ([]byte, []int, api.Code) {
	need := 0
	for rest := size; rest > 0; rest -= 1010 {
		need++
	}
	var val []byte
	var pages []int
	for head != 0 {
		if len(val) >= size || len(pages) >= need {
			return nil, nil, api.Malformed
		}
		says, e := p.read(head)
		if e != api.OK {
			return nil, nil, e
		}
		next, n := binary.BigEndian.Uint32(says), int(binary.BigEndian.Uint16(says[4:]))
		if next >= 1<<31 || n < 1 || n > 1010 || !bytes.Equal(says[6+n:], make([]byte, 1010-n)) {
			return nil, nil, api.Malformed
		}
		val, pages = append(val, says[6:6+n]...), append(pages, head)
		head = int(next)
	}
	if len(val) != size {
		return nil, nil, api.Malformed
	}
	return val, pages, api.OK
}

func (p *plain) read(no int) ([]byte, api.Code) {
	if no < 0 || no >= len(p.rows) {
		return nil, api.Sum
	}
	says := p.rows[no].onDisk
	if p.rows[no].fresh {
		says = p.rows[no].says
	}
	if says == nil {
		return nil, api.Sum
	}
	return says, api.OK
}

func (p *plain) fresh() []int {
	var out []int
	for no, r := range p.rows {
		if r.fresh {
			out = append(out, no)
		}
	}
	return out
}

func (p *plain) freed() []api.Freed {
	var out []api.Freed
	for no, r := range p.rows[:p.high] {
		if r.freed {
			out = append(out, api.Freed{Page: no, Gen: r.gen})
		}
	}
	return out
}

func (p *plain) flush() api.Code {
	for no := range p.rows {
		r := &p.rows[no]
		switch {
		case !r.fresh:
			continue
		case !r.exists:
			return api.Arg
		case p.down:
			return api.Down
		}
		r.onDisk = r.says
		p.waits = append(p.waits, no)
		if p.left--; p.left == 0 {
			p.down = true
			return api.Down
		}
		p.left = max(p.left, 0)
	}
	return api.OK
}

// arm: the power goes in the n-th act from here on.
func (p *plain) arm(n int) { p.left = n }

// same: all that the pager tells is as the chapter's words have it.
func same(t *testing.T, x *pager.Pager, d *disk.Disk, p *plain) {
	t.Helper()
	mustHold(t, x, p.high, p.fresh(), p.freed()...)
	mustWait(t, "any script", d, p.waits...)
	for no := -1; no <= len(p.rows); no++ {
		want, code := p.read(no)
		if got, e := x.Read(no); e != code || !bytes.Equal(got, want) {
			t.Errorf("P9.1: Read(%d): code %d, not %d, or it says something else", no, e, code)
		}
	}
}

// anyPlain: a pager with some freed pages, and some of its disk's pages written, and the same by the chapter's words.
func anyPlain(t *testing.T, random *rand.Rand) (*pager.Pager, *disk.Disk, *plain) {
	t.Helper()
	p := &plain{capacity: 2 + random.Intn(30), gen: uint64(random.Intn(8)), horizon: uint64(random.Intn(8))}
	p.high = 2 + random.Intn(p.capacity-1)
	d := disk.New(random.Intn(p.capacity + 2))
	for no := range d.Pages() {
		p.rows[no].exists = true
		if random.Intn(2) == 0 {
			p.rows[no].onDisk = filled(anyLink(random))
			writePage(t, d, no, p.rows[no].onDisk)
		}
	}
	d.Sync()
	for no := 2; no < p.high; no++ {
		p.rows[no].freed = random.Intn(3) == 0
		p.rows[no].gen = uint64(random.Intn(8))
	}
	return pager.New(d, makePool(t, p.capacity, p.high, p.freed()...), p.gen, p.horizon), d, p
}

// anyLink: what a chain's page says, most often; it leads to any page.
func anyLink(random *rand.Rand) []byte {
	n := []int{1, 500, 1009, 1010, 1010, 1010}[random.Intn(6)]
	says := binary.BigEndian.AppendUint32(nil, uint32(max(0, random.Intn(30)-8)))
	says = binary.BigEndian.AppendUint16(says, uint16(n))
	return append(says, long(min(1010, n+random.Intn(20)/19))...) // now and then there is a byte behind
}

// anySays: what may be put, or nearly.
func anySays(random *rand.Rand) []byte {
	if random.Intn(2) == 0 {
		return anyLink(random)
	}
	return long([]int{0, 1, 7, 1015, 1016, 1017}[random.Intn(6)])
}

// anyCall: one call, on both, and how many pages of a chain it read.
func anyCall(t *testing.T, random *rand.Rand, x *pager.Pager, d *disk.Disk, p *plain) int {
	t.Helper()
	no := random.Intn(p.high+3) - 1
	switch random.Intn(9) {
	case 0, 1:
		says := anySays(random)
		want, code := p.put(says)
		if got, e := x.Put(says); got != want || e != code {
			t.Errorf("P9.2: Put: %d and code %d, not %d and code %d", got, e, want, code)
		}
	case 2:
		says := anySays(random)
		mustSet(t, x, no, says, p.set(no, says))
	case 3:
		p.drop(no)
		x.Drop(no)
	case 4:
		val := long(lengths[random.Intn(len(lengths))] / (1 + random.Intn(6)))
		want, code := p.putChain(val)
		if got, e := x.PutChain(val); got != want || e != code {
			t.Errorf("P9.3: PutChain of %d bytes: %d and code %d, not %d and code %d", len(val), got, e, want, code)
		}
	case 5, 6, 7:
		size := anySize(random, no, p)
		want, pages, code := p.chain(no, size)
		val, on, e := x.Chain(no, size)
		if e != code || !bytes.Equal(val, want) || !slices.Equal(on, pages) {
			t.Errorf("P9.3: Chain(%d, %d): code %d, %d bytes and pages %v, not code %d, %d bytes and pages %v", no, size, e, len(val), on, code, len(want), pages)
		}
		if random.Intn(3) == 0 {
			for _, no := range pages {
				p.drop(no)
			}
			if e := x.DropChain(no, size); e != code {
				t.Errorf("P9.3: DropChain(%d, %d): code %d, not %d", no, size, e, code)
			}
		}
		return len(pages)
	case 8:
		if n := random.Intn(30); !p.down {
			p.arm(n)
			d.Arm(n)
		}
		mustFlush(t, x, p.flush())
	}
	return 0
}

// anySize: the size of what a chain has, as far as it can be read, or nearly, or any.
func anySize(random *rand.Rand, no int, p *plain) int {
	if random.Intn(4) == 0 {
		return []int{-1, 0, 1, 3, 4, 500, 1009, 1010, 1011, 1013, 2019, 2020, 2021, 3030, 9000}[random.Intn(15)]
	}
	size := 0
	for range 1 + random.Intn(20) {
		says, e := p.read(no)
		if no == 0 || e != api.OK {
			break
		}
		size += int(binary.BigEndian.Uint16(says[4:]))
		no = int(binary.BigEndian.Uint32(says))
	}
	return size + max(0, random.Intn(8)-6) - max(0, random.Intn(8)-6)
}

// TestAnyScript: whatever is called, in whatever order, is answered as the chapter's words have it.
func TestAnyScript(t *testing.T) { // P9.1 to P9.5
	random := rand.New(rand.NewSource(9))
	read := 0
	for range 400 {
		x, d, p := anyPlain(t, random)
		same(t, x, d, p)
		for range 40 {
			read += anyCall(t, random, x, d, p)
			same(t, x, d, p)
			if t.Failed() {
				t.FailNow()
			}
		}
	}
	if read < 500 {
		t.Errorf("%d of the random chains' pages were read", read)
	}
}

// TestAnyFlush: what was fresh is read by the next pager, and nothing else was written.
func TestAnyFlush(t *testing.T) { // P9.4, P9.5
	random := rand.New(rand.NewSource(99))
	for range 200 {
		x, d, p := anyPlain(t, random)
		for no := range d.Pages() {
			if p.rows[no].onDisk == nil && random.Intn(2) == 0 {
				writeBytes(t, d, no, page.Torn(make([]byte, 1024)))
			}
		}
		d.Sync()
		for range 20 {
			says := anySays(random)
			p.put(says)
			x.Put(says)
		}
		want := p.flush()
		mustFlush(t, x, want)
		mustWait(t, "flushed", d, p.waits...)
		for no := range p.rows {
			p.rows[no].fresh = false
		}
		same(t, pager.New(d, x.Pool(), 9, 9), d, p)
		if t.Failed() {
			t.FailNow()
		}
	}
}
