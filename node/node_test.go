package node_test

import (
	"bytes"
	"crypto/sha256"
	"encoding/binary"
	"encoding/hex"
	"math"
	"math/rand"
	"reflect"
	"slices"
	"strconv"
	"strings"
	"testing"

	"engrosser/api"
	"engrosser/node"
	"engrosser/wire"
)

const (
	prime   = 1<<61 - 1
	maxKey  = prime - 2
	maxLeaf = 31
)

// text is n octets that differ from their neighbours.
func text(n int) []byte {
	b := make([]byte, n)
	for i := range b {
		b[i] = byte(i*7 + i>>8 + 1)
	}
	return b
}

// counting are n numbers, each one greater than the one before it.
func counting(first, n int) []int {
	s := make([]int, n)
	for i := range s {
		s[i] = first + i
	}
	return s
}

// roomy is a copy of s with something behind it.
func roomy[T byte | int](s []T) []T {
	return append(slices.Clone(s), slices.Repeat([]T{0xee}, 70)...)[:len(s)]
}

// whole is s with what is behind it.
func whole[T byte | int](s []T) []T {
	return s[:cap(s)]
}

// spoil changes each element of s and of its spare capacity.
func spoil[T byte | int](s []T) {
	s = whole(s)
	for i := range s {
		s[i] ^= 255
	}
}

// none is nothing at all, in each way there is of it.
func none[T byte | int]() [][]T {
	return [][]T{nil, {}, make([]T, 0, 9), roomy[T](nil)}
}

// roomyNode is a copy of n with something behind each of its lists.
func roomyNode(n api.Node) api.Node {
	n.Name, n.Parent, n.Unmerged = roomy(n.Name), roomy(n.Parent), roomy(n.Unmerged)
	return n
}

// wholeNode is n with what is behind its lists.
func wholeNode(n api.Node) api.Node {
	n.Name, n.Parent, n.Unmerged = whole(n.Name), whole(n.Parent), whole(n.Unmerged)
	return n
}

// spoilNode changes all lists of n and what is behind them.
func spoilNode(n api.Node) {
	spoil(n.Name)
	spoil(n.Parent)
	spoil(n.Unmerged)
}

// plain is a copy of n in which empty lists are nil.
func plain(n api.Node) api.Node {
	n.Name = append([]byte(nil), n.Name...)
	n.Parent = append([]byte(nil), n.Parent...)
	n.Unmerged = append([]int(nil), n.Unmerged...)
	return n
}

// alike tells whether two nodes are equal, by Go's own library.
func alike(a, b api.Node) bool {
	return reflect.DeepEqual(plain(a), plain(b))
}

// with is a copy of n after a change.
func with(n api.Node, change func(*api.Node)) api.Node {
	n = plain(n)
	change(&n)
	return n
}

// leaf and branch are valid nodes; all that they have differs.
func leaf() api.Node {
	return api.Node{Kind: 1, Name: []byte("bob"), Key: 258, Parent: text(32)}
}

func branch() api.Node {
	return api.Node{Kind: 2, Key: 7, Parent: text(32), Unmerged: []int{2, 5}}
}

// samples are valid nodes of each kind.
func samples() []api.Node {
	all := []api.Node{{}}
	for _, name := range []int{1, 3, 15, 16} {
		for _, parent := range []int{0, 32} {
			for _, key := range []uint64{2, 258, maxKey} {
				all = append(all, api.Node{Kind: 1, Name: text(name), Key: key, Parent: text(parent)})
			}
		}
	}
	for _, unmerged := range [][]int{nil, {0}, {31}, {2, 5}, {0, 31}, counting(0, 31), counting(1, 31), counting(0, 32)} {
		for _, parent := range []int{0, 32} {
			for _, key := range []uint64{2, 258, maxKey} {
				all = append(all, api.Node{Kind: 2, Key: key, Parent: text(parent), Unmerged: unmerged})
			}
		}
	}
	return all
}

// wrongs are nodes that aren't valid, of each kind.
func wrongs() []api.Node {
	return []api.Node{
		{Name: []byte("a")}, {Key: 9}, {Parent: text(32)}, {Unmerged: []int{0}},
		with(leaf(), func(n *api.Node) { n.Kind = 0 }),
		with(leaf(), func(n *api.Node) { n.Kind = 2 }),
		with(leaf(), func(n *api.Node) { n.Kind = 3 }),
		with(leaf(), func(n *api.Node) { n.Name = nil }),
		with(leaf(), func(n *api.Node) { n.Name = text(17) }),
		with(leaf(), func(n *api.Node) { n.Name = text(300) }),
		with(leaf(), func(n *api.Node) { n.Key = 1 }),
		with(leaf(), func(n *api.Node) { n.Parent = text(31) }),
		with(leaf(), func(n *api.Node) { n.Unmerged = []int{1} }),
		with(branch(), func(n *api.Node) { n.Kind = 0 }),
		with(branch(), func(n *api.Node) { n.Kind = 1 }),
		with(branch(), func(n *api.Node) { n.Kind = -1 }),
		with(branch(), func(n *api.Node) { n.Kind = 256 + 2 }),
		with(branch(), func(n *api.Node) { n.Name = []byte("a") }),
		with(branch(), func(n *api.Node) { n.Key = maxKey + 1 }),
		with(branch(), func(n *api.Node) { n.Parent = text(300) }),
		with(branch(), func(n *api.Node) { n.Unmerged = []int{5, 2} }),
		with(branch(), func(n *api.Node) { n.Unmerged = []int{-1} }),
		with(branch(), func(n *api.Node) { n.Unmerged = counting(0, 300) }),
		{Kind: 1}, {Kind: 2}, {Kind: 3},
	}
}

// valid tells whether a node is valid, by the chapter's Terms.
func valid(n api.Node) bool {
	name, parent := len(n.Name), len(n.Parent)
	key := n.Key >= 2 && n.Key <= maxKey && (parent == 0 || parent == 32)
	switch n.Kind {
	case 0:
		return name == 0 && n.Key == 0 && parent == 0 && len(n.Unmerged) == 0
	case 1:
		return key && name > 0 && name < 17 && len(n.Unmerged) == 0
	case 2:
		for i, number := range n.Unmerged {
			if number < 0 || number > maxLeaf || i > 0 && number <= n.Unmerged[i-1] {
				return false
			}
		}
		return key && name == 0
	}
	return false
}

// list is a short string.
func list(b []byte) []byte {
	return append([]byte{byte(len(b))}, b...)
}

// eight are a number's octets.
func eight(n uint64) []byte {
	return binary.BigEndian.AppendUint64(nil, n)
}

// encoded are a node's octets by the chapter's Terms, whether it is valid or
// not, as far as all of it can be written.
func encoded(n api.Node) []byte {
	b := []byte{byte(n.Kind)}
	if n.Kind == 1 {
		b = append(b, list(n.Name)...)
	}
	if n.Kind == 1 || n.Kind == 2 {
		b = append(append(b, eight(n.Key)...), list(n.Parent)...)
	}
	if n.Kind == 2 {
		b = append(b, byte(len(n.Unmerged)))
		for _, number := range n.Unmerged {
			b = append(b, byte(number))
		}
	}
	return b
}

// digest is that of a mark and parts, by Go's own library.
func digest(mark byte, parts ...[]byte) []byte {
	h := sha256.New()
	h.Write([]byte{mark})
	for _, part := range parts {
		h.Write(part)
	}
	return h.Sum(nil)
}

// leafHash, branchHash and parentHash are the hashes by the chapter's Terms.
func leafHash(number int, n api.Node) []byte {
	if !valid(n) || number < 0 || number > maxLeaf {
		return nil
	}
	return digest(1, []byte{0, 0, 0, byte(number)}, encoded(n))
}

func branchHash(n api.Node, left, right []byte) []byte {
	if !valid(n) {
		return nil
	}
	return digest(2, encoded(n), left, right)
}

func parentHash(n api.Node, beside []byte) []byte {
	if !valid(n) || n.Kind != 2 {
		return nil
	}
	return digest(3, eight(n.Key), list(n.Parent), beside)
}

// cursor goes through octets, as a reader does.
type cursor struct {
	b   []byte
	at  int
	err api.Errno
}

// take are the next n octets: zeros, if there are too few, or none are left of
// an error.
func (c *cursor) take(n int) []byte {
	if c.err == api.OK && len(c.b)-c.at < n {
		c.err = api.ErrShort
	}
	if c.err != api.OK {
		return make([]byte, n)
	}
	c.at += n
	return c.b[c.at-n : c.at]
}

func (c *cursor) list(most int) []byte {
	n := int(c.take(1)[0])
	if c.err == api.OK && n > most {
		c.err = api.ErrLong
	}
	return c.take(n)
}

// parsed is the node at the beginning of octets by the chapter's Terms, how
// many octets it has, and the error.
func parsed(b []byte) (api.Node, int, api.Errno) {
	c := &cursor{b: b}
	n := api.Node{Kind: int(c.take(1)[0])}
	if n.Kind == 1 {
		n.Name = c.list(16)
	}
	if n.Kind == 1 || n.Kind == 2 {
		n.Key = binary.BigEndian.Uint64(c.take(8))
		n.Parent = c.list(32)
	}
	if n.Kind == 2 {
		for range c.take(1)[0] {
			n.Unmerged = append(n.Unmerged, int(c.take(1)[0]))
		}
	}
	if c.err == api.OK && !valid(n) {
		c.err = api.ErrForm
	}
	if c.err != api.OK {
		return api.Node{}, 0, c.err
	}
	return n, c.at, api.OK
}

// short tells a node in a test's message.
func short(n api.Node) string {
	words := []string{"kind " + strconv.Itoa(n.Kind), "name " + hex.EncodeToString(n.Name[:min(len(n.Name), 40)]),
		"key " + strconv.FormatUint(n.Key, 10), strconv.Itoa(len(n.Parent)) + " octets"}
	for _, number := range n.Unmerged[:min(len(n.Unmerged), 40)] {
		words = append(words, strconv.Itoa(number))
	}
	return strings.Join(words, ", ")
}

// written are the octets of a writer that is new but for n.
func written(n api.Node) ([]byte, bool) {
	p := wire.New()
	node.Write(p, n)
	return p.Bytes()
}

// checkRight asks for all that there is of a node that is valid.
func checkRight(t *testing.T, what string, n api.Node) {
	t.Helper()
	if !valid(n) {
		t.Fatalf("%s (%s): the test's own Terms refuse it", what, short(n))
	}
	if !node.Right(n) {
		t.Errorf("%s (%s): not right", what, short(n))
	}
	if b, ok := written(n); !ok || !bytes.Equal(b, encoded(n)) {
		t.Errorf("%s (%s): wrote %x, %v", what, short(n), b, ok)
	}
	checkRead(t, what, encoded(n), n)
	checkHashes(t, what, n)
}

// checkWrong asks for what there isn't of a node that isn't valid.
func checkWrong(t *testing.T, what string, n api.Node) {
	t.Helper()
	if valid(n) {
		t.Fatalf("%s (%s): valid by the test's own Terms", what, short(n))
	}
	if node.Right(n) {
		t.Errorf("%s (%s): right", what, short(n))
	}
	if b, ok := written(n); ok || len(b) != 0 {
		t.Errorf("%s (%s): wrote %x, %v", what, short(n), b, ok)
	}
	checkHashes(t, what, n)
}

// checkHashes holds the hashes of a node, valid or not, against the Terms.
func checkHashes(t *testing.T, what string, n api.Node) {
	t.Helper()
	for _, number := range []int{-1, 0, 5, 31, 32} {
		checkLeafHash(t, what, number, n)
	}
	checkBranchHash(t, what, n, text(32), text(31))
	checkParentHash(t, what, n, text(32))
}

func checkLeafHash(t *testing.T, what string, number int, n api.Node) {
	t.Helper()
	if got, want := node.LeafHash(number, n), leafHash(number, n); !bytes.Equal(got, want) {
		t.Errorf("%s (%s), leaf %d: got %x, want %x", what, short(n), number, got, want)
	}
}

func checkBranchHash(t *testing.T, what string, n api.Node, left, right []byte) {
	t.Helper()
	if got, want := node.BranchHash(n, left, right), branchHash(n, left, right); !bytes.Equal(got, want) {
		t.Errorf("%s (%s), of %d and %d octets: got %x, want %x", what, short(n), len(left), len(right), got, want)
	}
}

func checkParentHash(t *testing.T, what string, n api.Node, beside []byte) {
	t.Helper()
	if got, want := node.ParentHash(n, beside), parentHash(n, beside); !bytes.Equal(got, want) {
		t.Errorf("%s (%s), beside %d octets: got %x, want %x", what, short(n), len(beside), got, want)
	}
}

// checkRead reads what can be read, and whatever is behind it is left.
func checkRead(t *testing.T, what string, b []byte, want api.Node) {
	t.Helper()
	for _, behind := range []int{0, 1, 40} {
		e := wire.Open(append(bytes.Clone(b), text(behind)...))
		got := node.Read(e)
		if !alike(got, want) || e.Err() != api.OK || e.Left() != behind {
			t.Errorf("%s, %x and %d octets: read %s, %v, %d left", what, b, behind, short(got), e.Err(), e.Left())
		}
	}
}

// checkRefused reads what can't be read.
func checkRefused(t *testing.T, what string, b []byte, want api.Errno) {
	t.Helper()
	e := wire.Open(b)
	got := node.Read(e)
	if e.Err() != want || e.End() != want {
		t.Errorf("%s, %x: %v, want %v", what, b, e.Err(), want)
	}
	if !alike(got, api.Node{}) {
		t.Errorf("%s, %x: read %s beside an error", what, b, short(got))
	}
}

// checkParsed holds what is read of any octets against the Terms.
func checkParsed(t *testing.T, what string, b []byte) {
	t.Helper()
	n, used, x := parsed(b)
	if x == api.OK {
		checkRead(t, what, b[:used], n)
	} else {
		checkRefused(t, what, b, x)
	}
}

// checkSame holds two nodes against each other, both ways round.
func checkSame(t *testing.T, what string, a, b api.Node, want bool) {
	t.Helper()
	if node.Same(a, b) != want || node.Same(b, a) != want {
		t.Errorf("%s (%s; %s): want %v", what, short(a), short(b), want)
	}
}

// P19.1 and P19.2: the chapter's example, and encodings and hashes that were
// made by another program (Python): as leaf 0, as leaf 31, as a branch above
// "left" and "right", and as a parent beside "beside".
func TestKnown(t *testing.T) {
	counted := make([]byte, 32)
	for i := range counted {
		counted[i] = byte(i)
	}
	tests := []struct {
		n      api.Node
		octets string
		hashes [4]string
	}{
		{api.Node{}, "00", [4]string{
			"36c159d76b52e03e496363607c5940227f62f4e048df344b050159bc97bba3d7",
			"857c891c3efa343dc62becd5e4eb7525d33e67f545c7da853c7e6794d2dbbb0a",
			"b37312aac165f4b79cf5472507345084c2ef4f3b8074d5a567ba57b1febbfe3c",
		}},
		{api.Node{Kind: api.Leaf, Name: []byte("a"), Key: 9}, "010161000000000000000900", [4]string{
			"63f2fc70456d8632b8bfacaafd4ef863ed602822b0d774e66695b8267c167e83",
			"54f9dc699319b2584ef7581cfbd477597a4781ff876effc4f39b4520f6ef6691",
			"c90edb02cd75beb7f66dc89de3624bebc240f17c2cc7350ea333bb9d337a2c3c",
		}},
		{api.Node{Kind: api.Leaf, Name: []byte("sixteen letters!"), Key: maxKey, Parent: counted}, "0110" +
			"7369787465656e206c657474657273211ffffffffffffffd20000102030405060708090a0b0c0d0e0f101112131415161718191a1b1c1d1e1f", [4]string{
			"5efad8a7774ff437559232cfdf1d61857bec9397344ce09b1502f89e0bebf55d",
			"c9239cc45dc4b91e6dc315e81056134758a8f01161ee6c5f77841c627333c78b",
			"254c8f8cec0189040a11b98d1ce8b03414244c6082b5d0d3379285701bbfcaca",
		}},
		{api.Node{Kind: api.Branch, Key: 2}, "0200000000000000020000", [4]string{
			"6d6dab14fba7e88e69abccf1590d937a76ae9cea416c26d6e54996f88b435eb5",
			"c9960e02b9956ac89989b12ee4cf61e132ca5ab36713a6c64e81eedf70898f9a",
			"1178a1e101265e92c8fdf6d7a5849f2e465b5f09e0cb4301dce21b0002e1dc61",
			"5e11b8bbb0543007c60851f35d59e6b6c6eeeb619e7e5f83edba15e27b08b736",
		}},
		{api.Node{Kind: api.Branch, Key: 0x0102030405060708, Parent: bytes.Repeat([]byte{255}, 32), Unmerged: []int{0, 1, 7, 30, 31}},
			"02010203040506070820" + strings.Repeat("ff", 32) + "050001071e1f", [4]string{
				"a2956eb278207a7ed33036ffe577bc4f090db8e1da504276539e404f8d9de856",
				"ad42e48cfa35d96da682d030e00aa91f7b74939ebe4938702a806f70d59a91e2",
				"2ceabe2eb4d228f4af40ac4e19669fc03a859ead09737c7ae6a77c40019dda92",
				"cb8d128e6fd581b73431c61187ff296c2c0f304296978355a121fb9cc731b51c",
			}},
		{api.Node{Kind: api.Branch, Key: 3, Unmerged: counting(0, 32)},
			"0200000000000000030020000102030405060708090a0b0c0d0e0f101112131415161718191a1b1c1d1e1f", [4]string{
				"3c762076a93eff5f98eee629c7cbd9c9a71db83ca6a83c9b1cfabc07cf02f197",
				"d5c67e787074667acd62c9d53d56a1c8f20a9132a75b2419fa4fb69a8f049844",
				"03b0712507c6a259c33d9e07f16e7e4a942e58924df08be2c9fb7600e024d7e2",
				"a4818d0ee139a69cc11798701c3340c5f87f2bcfc4b768918d56218b3489ca38",
			}},
	}
	for _, x := range tests {
		b, ok := written(x.n)
		if !ok || hex.EncodeToString(b) != x.octets {
			t.Errorf("%s: got %x, %v", short(x.n), b, ok)
		}
		hashes := [4][]byte{
			node.LeafHash(0, x.n), node.LeafHash(31, x.n),
			node.BranchHash(x.n, []byte("left"), []byte("right")), node.ParentHash(x.n, []byte("beside")),
		}
		for i, hash := range hashes {
			if hex.EncodeToString(hash) != x.hashes[i] {
				t.Errorf("%s: hash %d: got %x", short(x.n), i, hash)
			}
		}
		in, err := hex.DecodeString(x.octets)
		if err != nil {
			t.Fatal(err)
		}
		checkRead(t, "as made by the other program", in, x.n)
		checkRight(t, "as made by the other program", x.n)
	}
}

// P19.1 and P19.2: valid nodes of each kind, and others.
func TestSamples(t *testing.T) {
	for _, n := range samples() {
		checkRight(t, "a sample", n)
	}
	for _, n := range wrongs() {
		checkWrong(t, "a wrong one", n)
	}
}

// P19.1: a blank node, and blank nodes with one field that isn't zero or empty.
func TestBlank(t *testing.T) {
	for _, name := range none[byte]() {
		for _, parent := range none[byte]() {
			for _, unmerged := range none[int]() {
				checkRight(t, "blank", api.Node{Name: name, Parent: parent, Unmerged: unmerged})
			}
		}
	}
	for _, n := range []int{1, 2, 16, 17, 31, 32, 33, 256} {
		checkWrong(t, "a name", api.Node{Name: text(n)})
		checkWrong(t, "a name of zeros", api.Node{Name: make([]byte, n)})
		checkWrong(t, "a parent", api.Node{Parent: text(n)})
		checkWrong(t, "a parent of zeros", api.Node{Parent: make([]byte, n)})
		checkWrong(t, "numbers", api.Node{Unmerged: counting(0, n)})
		checkWrong(t, "zeros", api.Node{Unmerged: make([]int, n)})
	}
	for _, key := range []uint64{1, 2, 9, 256, 1 << 32, maxKey, maxKey + 1, prime, 1 << 63, math.MaxUint64} {
		checkWrong(t, "a key", api.Node{Key: key})
	}
	for _, number := range []int{-1, 0, 1, 31, 32, math.MinInt, math.MaxInt} {
		checkWrong(t, "a number", api.Node{Unmerged: []int{number}})
	}
}

// P19.1: the kinds that there are, and others, also those whose last octet is
// that of a kind.
func TestKinds(t *testing.T) {
	kinds := []int{3, 4, 127, 128, 254, 255, 256, 257, 258, 259, 512, 1 << 16, 1 << 32, 1<<32 + 1, 1<<32 + 2,
		-1, -2, -3, -254, -255, -256, math.MaxInt, math.MaxInt - 1, math.MinInt, math.MinInt + 1, math.MinInt + 2}
	for _, n := range samples() {
		for _, kind := range kinds {
			checkWrong(t, "another kind", with(n, func(n *api.Node) { n.Kind = kind }))
		}
		for kind := range 3 {
			other := with(n, func(n *api.Node) { n.Kind = kind })
			// No node is valid as two kinds: each kind asks for a field that another one
			// has to be without.
			if kind == n.Kind {
				checkRight(t, "its own kind", other)
			} else {
				checkWrong(t, "the kind of another node", other)
			}
		}
	}
}

// P19.1: names of each length, also those whose last octet is that of a length
// that is valid.
func TestNames(t *testing.T) {
	for _, n := range []api.Node{leaf(), {Kind: 1, Name: []byte("a"), Key: 9}} {
		for length := range 300 {
			n.Name = text(length)
			if length >= 1 && length <= 16 {
				checkRight(t, "a name", n)
			} else {
				checkWrong(t, "a name", n)
			}
		}
		for _, length := range []int{65535, 65536, 65537} {
			n.Name = text(length)
			checkWrong(t, "a long name", n)
		}
		for _, n.Name = range none[byte]() {
			checkWrong(t, "no name", n)
		}
		for i := range 256 {
			n.Name = []byte{byte(i)}
			checkRight(t, "a name of one octet", n)
			n.Name = bytes.Repeat([]byte{byte(i)}, 16)
			checkRight(t, "a name of one octet again and again", n)
		}
	}
	for _, n := range []api.Node{branch(), {Kind: 2, Key: 9}} {
		for _, length := range []int{1, 2, 15, 16, 17, 32, 255, 256, 257, 512} {
			n.Name = text(length)
			checkWrong(t, "a branch with a name", n)
			n.Name = make([]byte, length)
			checkWrong(t, "a branch with a name of zeros", n)
		}
		for _, n.Name = range none[byte]() {
			checkRight(t, "a branch without a name", n)
		}
	}
}

// P19.1: keys at the ends of their range and beyond it, and each of their bits.
func TestKeys(t *testing.T) {
	for _, n := range []api.Node{leaf(), branch(), {Kind: 1, Name: []byte("a")}, {Kind: 2}} {
		for _, n.Key = range []uint64{2, 3, 4, 9, 255, 256, 65535, 65536, 1<<32 - 1, 1 << 32, 1<<32 + 1, prime / 2, prime - 4, prime - 3, prime - 2} {
			checkRight(t, "a key", n)
		}
		for n.Key = 2; n.Key < prime; n.Key *= 2 {
			checkRight(t, "a bit", n)
		}
		for _, n.Key = range []uint64{0, 1, prime - 1, prime, prime + 1, prime + 2, prime + 3, 1 << 62, 2*prime + 9, 1 << 63, 1<<63 + 9, math.MaxUint64 - 1, math.MaxUint64} {
			checkWrong(t, "a key out of its range", n)
		}
	}
}

// P19.1: parents of each length, also those whose last octet is that of a
// length that is valid.
func TestParents(t *testing.T) {
	for _, n := range []api.Node{leaf(), branch()} {
		for length := range 300 {
			n.Parent = text(length)
			if length == 0 || length == 32 {
				checkRight(t, "a parent", n)
			} else {
				checkWrong(t, "a parent", n)
			}
		}
		for _, length := range []int{512, 512 + 32, 65535, 65536, 65536 + 32} {
			n.Parent = text(length)
			checkWrong(t, "a long parent", n)
		}
		for _, n.Parent = range none[byte]() {
			checkRight(t, "no parent", n)
		}
		for i := range 256 {
			n.Parent = bytes.Repeat([]byte{byte(i)}, 32)
			checkRight(t, "a parent of one octet again and again", n)
		}
	}
}

// P19.1: a leaf has an empty Unmerged.
func TestLeafUnmerged(t *testing.T) {
	for _, n := range []api.Node{leaf(), {Kind: 1, Name: []byte("a"), Key: 9}} {
		for _, n.Unmerged = range none[int]() {
			checkRight(t, "a leaf without numbers", n)
		}
		for _, n.Unmerged = range [][]int{{0}, {1}, {31}, {-1}, {32}, {2, 5}, make([]int, 256), counting(0, 32), {math.MaxInt}, {math.MinInt}} {
			checkWrong(t, "a leaf with numbers", n)
		}
	}
}

// P19.1: the numbers of a branch are in 0 to 31, and each one is greater than
// the one before it.
func TestUnmerged(t *testing.T) {
	for _, n := range []api.Node{branch(), {Kind: 2, Key: 9}} {
		for _, n.Unmerged = range none[int]() {
			checkRight(t, "no numbers", n)
		}
		for first := range 32 {
			for length := range 33 - first {
				n.Unmerged = counting(first, length)
				checkRight(t, "numbers", n)
			}
			n.Unmerged = counting(first, 33-first)
			checkWrong(t, "one number too many", n)
			n.Unmerged = counting(-1, first+1)
			checkWrong(t, "from -1 on", n)
		}
		for a := -2; a < 35; a++ {
			for b := -2; b < 35; b++ {
				n.Unmerged = []int{a, b}
				if a >= 0 && a < b && b <= 31 {
					checkRight(t, "two numbers", n)
				} else {
					checkWrong(t, "two numbers", n)
				}
			}
		}
	}
}

// P19.1: numbers far out of their range, also those whose last octet is one
// that is valid, at each place.
func TestUnmergedFar(t *testing.T) {
	n := branch()
	for _, far := range []int{-1, -2, -32, -255, -256, 32, 33, 63, 64, 127, 128, 255, 256, 257, 256 + 31, 1 << 16, 1 << 32, 1<<32 + 9,
		math.MinInt, math.MinInt + 9, math.MaxInt, math.MaxInt - 1} {
		n.Unmerged = []int{far}
		checkWrong(t, "alone", n)
		for i := range 4 {
			n.Unmerged = []int{3, 8, 20, 31}
			n.Unmerged[i] = far
			checkWrong(t, "in place of a number", n)
			n.Unmerged = slices.Insert([]int{3, 8, 20}, i, far)
			checkWrong(t, "between numbers", n)
		}
	}
	for i := range 31 {
		n.Unmerged = counting(0, 32)
		n.Unmerged[i+1] = i
		checkWrong(t, "equal neighbours", n)
		n.Unmerged = counting(0, 32)
		n.Unmerged[i], n.Unmerged[i+1] = i+1, i
		checkWrong(t, "falling neighbours", n)
		n.Unmerged = slices.Insert(counting(0, 32), i, i)
		checkWrong(t, "33 numbers", n)
	}
	for _, length := range []int{33, 64, 255, 256, 257, 256 + 32, 65536} {
		n.Unmerged = counting(0, length)
		checkWrong(t, "rising numbers, too many", n)
		n.Unmerged = make([]int, length)
		checkWrong(t, "zeros", n)
	}
}

// P19.1 and P19.2: nodes whose numbers are any that there are.
func TestUnmergedAny(t *testing.T) {
	r := rand.New(rand.NewSource(19))
	for range 2000 {
		n := branch()
		n.Unmerged = nil
		bits := r.Uint32() & r.Uint32()
		for number := range 32 {
			if bits>>number&1 == 1 {
				n.Unmerged = append(n.Unmerged, number)
			}
		}
		checkRight(t, "any numbers", n)
		if len(n.Unmerged) > 1 {
			i := r.Intn(len(n.Unmerged) - 1)
			n.Unmerged[i], n.Unmerged[i+1] = n.Unmerged[i+1], n.Unmerged[i]
			checkWrong(t, "any two exchanged", n)
		}
	}
}

// anyNode is one, each of whose fields is most often valid.
func anyNode(r *rand.Rand) api.Node {
	n := []api.Node{{}, leaf(), branch()}[r.Intn(3)]
	rare := func(change func()) {
		if r.Intn(9) == 0 {
			change()
		}
	}
	if n.Kind != 0 {
		n.Key = 2 + r.Uint64()%(prime-3)
		n.Parent = text(32 * r.Intn(2))
	}
	rare(func() { n.Kind = r.Intn(5) - 1 })
	rare(func() { n.Name = text(r.Intn(20)) })
	rare(func() { n.Key = []uint64{0, 1, 2, maxKey, maxKey + 1, math.MaxUint64}[r.Intn(6)] })
	rare(func() { n.Parent = text(r.Intn(35)) })
	rare(func() { n.Unmerged = counting(r.Intn(4)-1, r.Intn(35)) })
	rare(func() { n.Unmerged = []int{r.Intn(34) - 1, r.Intn(34) - 1} })
	return n
}

// P19.1 to P19.3: any nodes, with any of their fields wrong.
func TestAnyNodes(t *testing.T) {
	r := rand.New(rand.NewSource(20))
	right := 0
	for range 20000 {
		n := anyNode(r)
		if valid(n) {
			checkRight(t, "any node", n)
			right++
		} else {
			checkWrong(t, "any node", n)
			checkSame(t, "any node", n, plain(n), true)
		}
	}
	if right < 5000 || right > 15000 {
		t.Errorf("%d of them are valid", right)
	}
}

// P19.1: Write writes behind what the writer holds, and more can be written
// behind it.
func TestWriteBehind(t *testing.T) {
	for _, first := range samples() {
		for _, second := range samples() {
			p := wire.New()
			p.Raw([]byte("ahead"))
			node.Write(p, first)
			node.Write(p, second)
			p.Raw([]byte("behind"))
			b, ok := p.Bytes()
			want := slices.Concat([]byte("ahead"), encoded(first), encoded(second), []byte("behind"))
			if !ok || !bytes.Equal(b, want) {
				t.Errorf("%s; %s: got %x, %v", short(first), short(second), b, ok)
			}
		}
	}
}

// P19.1: a writer that is bad stays so, whatever is written.
func TestWriteToBad(t *testing.T) {
	for _, n := range append(samples(), wrongs()...) {
		p := wire.New()
		p.Raw([]byte("ahead"))
		p.U8(256)
		node.Write(p, n)
		if b, ok := p.Bytes(); ok || len(b) != 0 {
			t.Errorf("%s: wrote %x, %v", short(n), b, ok)
		}
	}
}

// P19.1: a writer becomes bad by a node that isn't valid, wherever that is, and
// stays so. No other writer does.
func TestWriteMakesBad(t *testing.T) {
	for _, wrong := range wrongs() {
		for _, n := range samples() {
			ahead, behind, other := wire.New(), wire.New(), wire.New()
			node.Write(ahead, wrong)
			node.Write(ahead, n)
			node.Write(behind, n)
			node.Write(other, n)
			node.Write(behind, wrong)
			for _, p := range []*wire.Pen{ahead, behind} {
				if b, ok := p.Bytes(); ok || len(b) != 0 {
					t.Errorf("%s; %s: wrote %x, %v", short(wrong), short(n), b, ok)
				}
			}
			if b, ok := other.Bytes(); !ok || !bytes.Equal(b, encoded(n)) {
				t.Errorf("%s: another writer: %x, %v", short(n), b, ok)
			}
		}
	}
}

// P19.1: nodes that follow each other are read in order.
func TestReadMany(t *testing.T) {
	p := wire.New()
	for _, n := range samples() {
		node.Write(p, n)
	}
	b, ok := p.Bytes()
	if !ok {
		t.Fatal("bad")
	}
	e := wire.Open(b)
	for _, n := range samples() {
		if got := node.Read(e); !alike(got, n) {
			t.Errorf("read %s, want %s", short(got), short(n))
		}
	}
	if e.End() != api.OK {
		t.Errorf("%v, %d left", e.End(), e.Left())
	}
	if got := node.Read(e); !alike(got, api.Node{}) || e.Err() != api.ErrShort {
		t.Errorf("behind them: read %s, %v", short(got), e.Err())
	}
}

// P19.1: an encoding that is cut is too short, wherever it is cut.
func TestReadCut(t *testing.T) {
	for _, n := range samples() {
		b := encoded(n)
		for i := range b {
			checkRefused(t, "cut", b[:i], api.ErrShort)
		}
	}
}

// P19.1: an encoding with any octet changed to any other, with and without
// octets behind it.
func TestReadChanged(t *testing.T) {
	for _, n := range samples() {
		if n.Kind != 0 && n.Key != 258 {
			continue // the others have as many octets
		}
		b := encoded(n)
		for i := range b {
			for value := range 256 {
				c := bytes.Clone(b)
				c[i] = byte(value)
				checkParsed(t, "changed", c)
				checkParsed(t, "changed", append(c, text(60)...))
				checkParsed(t, "changed", append(c, make([]byte, 60)...))
			}
		}
	}
}

// P19.1: an encoding without one of its octets, and with one more.
func TestReadShifted(t *testing.T) {
	for _, n := range samples() {
		b := encoded(n)
		for i := range b {
			checkParsed(t, "one less", slices.Delete(bytes.Clone(b), i, i+1))
			for _, value := range []byte{0, 1, 2, 16, 17, 31, 32, 33, 255} {
				checkParsed(t, "one more", slices.Insert(bytes.Clone(b), i, value))
			}
		}
	}
}

// join is a node's octets out of parts.
func join(parts ...[]byte) []byte {
	return slices.Concat(parts...)
}

// P19.1: a Kind that there isn't fails, whatever is behind it.
func TestReadKind(t *testing.T) {
	checkRefused(t, "nothing", nil, api.ErrShort)
	checkRefused(t, "nothing", []byte{}, api.ErrShort)
	for kind := 3; kind < 256; kind++ {
		first := []byte{byte(kind)}
		checkRefused(t, "another kind alone", first, api.ErrForm)
		for _, n := range []api.Node{{}, leaf(), branch()} {
			checkRefused(t, "another kind", join(first, encoded(n)[1:]), api.ErrForm)
		}
	}
}

// P19.1: names, parents and keys of an encoding, each of its own length.
func TestReadFields(t *testing.T) {
	one, two, key, none := []byte{1}, []byte{2}, eight(9), []byte{0}
	for n := range 256 {
		name := list(text(n))
		b := join(one, name, key, none)
		switch {
		case n == 0:
			checkRefused(t, "no name", b, api.ErrForm)
		case n <= 16:
			checkRead(t, "a name", b, api.Node{Kind: 1, Name: text(n), Key: 9})
			checkRefused(t, "a name that is cut", join(one, name[:n]), api.ErrShort)
		default:
			checkRefused(t, "a long name", b, api.ErrLong)
			checkRefused(t, "a long name's length", join(one, name[:1]), api.ErrLong)
		}
		parent := list(text(n))
		for _, ahead := range [][]byte{join(one, list([]byte("a")), key), join(two, key)} {
			b := join(ahead, parent, none)
			switch {
			case n == 0 || n == 32:
				got, _, x := parsed(b)
				if x != api.OK || len(got.Parent) != n {
					t.Fatalf("%x: %v", b, x)
				}
				checkParsed(t, "a parent", b)
			case n < 32:
				checkRefused(t, "a parent of another length", b, api.ErrForm)
				checkRefused(t, "a parent that is cut", join(ahead, parent[:n]), api.ErrShort)
			default:
				checkRefused(t, "a long parent", b, api.ErrLong)
				checkRefused(t, "a long parent's length", join(ahead, parent[:1]), api.ErrLong)
			}
		}
	}
	for _, wrong := range []uint64{0, 1, prime - 1, prime, prime + 1, prime + 9, 1 << 63, 1<<63 + 9, math.MaxUint64} {
		for _, parent := range [][]byte{none, list(text(32))} {
			checkRefused(t, "a leaf's key", join(one, list([]byte("a")), eight(wrong), parent), api.ErrForm)
			checkRefused(t, "a branch's key", join(two, eight(wrong), parent, none), api.ErrForm)
		}
	}
}

// P19.1: the numbers of an encoding.
func TestReadUnmerged(t *testing.T) {
	for _, parent := range []int{0, 32} {
		ahead := join([]byte{2}, eight(9), list(text(parent)))
		checkRefused(t, "no length", ahead, api.ErrShort)
		for _, numbers := range [][]byte{{32}, {33}, {255}, {0, 32}, {5, 5}, {0, 0}, {31, 31}, {5, 2}, {1, 0}, {31, 0}, {2, 5, 3}, {2, 5, 5}, {2, 2, 5}, {5, 2, 9}, {0, 1, 128}} {
			checkRefused(t, "numbers", join(ahead, list(numbers)), api.ErrForm)
			checkRefused(t, "numbers with octets behind them", join(ahead, list(numbers), text(300)), api.ErrForm)
		}
		for n := range 256 {
			numbers := make([]byte, n)
			for i := range numbers {
				numbers[i] = byte(i)
			}
			b := join(ahead, list(numbers))
			if n <= 32 {
				checkRead(t, "rising numbers", b, api.Node{Kind: 2, Key: 9, Parent: text(parent), Unmerged: counting(0, n)})
			} else {
				checkRefused(t, "too many numbers", b, api.ErrForm)
			}
			for i := range n {
				checkRefused(t, "numbers that are cut", b[:len(b)-i-1], api.ErrShort)
			}
		}
	}
}

// P19.1: whether the node is valid is asked behind all of its fields, so what
// the reader says of any of them comes first.
func TestReadOrder(t *testing.T) {
	one, two := []byte{1}, []byte{2}
	tests := []struct {
		what string
		b    []byte
		want api.Errno
	}{
		{"no name, cut", join(one, list(nil)), api.ErrShort},
		{"no name, and a key that is cut", join(one, list(nil), eight(9)[:7]), api.ErrShort},
		{"no name, and no parent's length", join(one, list(nil), eight(9)), api.ErrShort},
		{"no name, and a long parent", join(one, list(nil), eight(9), list(text(33))), api.ErrLong},
		{"no name, and a wrong key", join(one, list(nil), eight(1), list(nil)), api.ErrForm},
		{"a long name, and a wrong key", join(one, list(text(17)), eight(1), list(nil)), api.ErrLong},
		{"a long name, and a long parent", join(one, list(text(17)), eight(9), list(text(33))), api.ErrLong},
		{"a leaf's wrong key, cut", join(one, list([]byte("a")), eight(1)), api.ErrShort},
		{"a leaf's wrong key, and a parent that is cut", join(one, list([]byte("a")), eight(0), list(text(32))[:32]), api.ErrShort},
		{"a leaf's wrong key, and a long parent", join(one, list([]byte("a")), eight(0), list(text(33))), api.ErrLong},
		{"a wrong key, cut", join(two, eight(1)), api.ErrShort},
		{"a wrong key, and a parent that is cut", join(two, eight(0), list(text(32))[:32]), api.ErrShort},
		{"a wrong key, and a long parent", join(two, eight(0), list(text(33)), list(nil)), api.ErrLong},
		{"a wrong key, and numbers that are cut", join(two, eight(0), list(nil), []byte{1}), api.ErrShort},
		{"a parent of 31 octets, cut", join(two, eight(9), list(text(31))), api.ErrShort},
		{"a parent of 31 octets, and numbers that are cut", join(two, eight(9), list(text(31)), []byte{3, 1, 2}), api.ErrShort},
		{"a long parent, and numbers that are not in order", join(two, eight(9), list(text(33)), list([]byte{5, 2})), api.ErrLong},
		{"numbers that are not in order, cut", join(two, eight(9), list(nil), []byte{3, 5, 2}), api.ErrShort},
		{"a number that is too great, cut", join(two, eight(9), list(nil), []byte{2, 32}), api.ErrShort},
		{"too many numbers, cut", join(two, eight(9), list(nil), []byte{255}, text(254)), api.ErrShort},
	}
	for _, x := range tests {
		checkRefused(t, x.what, x.b, x.want)
	}
}

// P19.1: a reader that has an error keeps it, and nothing is read.
func TestReadBehindError(t *testing.T) {
	for _, b := range [][]byte{nil, {0}, {3}, encoded(leaf()), encoded(branch()), {1, 17}, {1, 0}} {
		for _, x := range []api.Errno{api.ErrArg, api.ErrShort, api.ErrLong, api.ErrForm, api.ErrTrail, api.ErrTree, -1} {
			e := wire.Open(b)
			e.Fail(x)
			got := node.Read(e)
			if !alike(got, api.Node{}) || e.Err() != x || e.Left() != len(b) {
				t.Errorf("%x after %v: read %s, %v, %d left", b, x, short(got), e.Err(), e.Left())
			}
		}
		e := wire.Open(b)
		e.Raw(len(b) + 1)
		if got := node.Read(e); !alike(got, api.Node{}) || e.Err() != api.ErrShort || e.Left() != len(b) {
			t.Errorf("%x after a read that failed: read %s, %v, %d left", b, short(got), e.Err(), e.Left())
		}
	}
	for _, first := range [][]byte{{3}, {1, 0, 0, 0, 0, 0, 0, 0, 0, 9, 0}} {
		e := wire.Open(join(first, encoded(leaf())))
		node.Read(e)
		left := e.Left()
		if got := node.Read(e); !alike(got, api.Node{}) || e.Err() != api.ErrForm || e.Left() != left {
			t.Errorf("%x: the second one: read %s, %v, %d left", first, short(got), e.Err(), e.Left())
		}
	}
}

// P19.1: a reader is read from where it is.
func TestReadFurther(t *testing.T) {
	for _, n := range samples() {
		e := wire.Open(join(text(9), encoded(n), text(5)))
		e.Raw(9)
		got := node.Read(e)
		if !alike(got, n) || !bytes.Equal(e.Raw(5), text(5)) || e.End() != api.OK {
			t.Errorf("read %s, want %s: %v", short(got), short(n), e.End())
		}
	}
}

// P19.2: the numbers of leaves at the ends of their range and beyond it, also
// those whose last four octets are those of a number that is valid.
func TestLeafNumbers(t *testing.T) {
	for _, n := range append(samples(), wrongs()...) {
		for number := -3; number < 300; number++ {
			checkLeafHash(t, "a number", number, n)
		}
		for _, number := range []int{-255, -256, 65535, 65536, math.MinInt32, math.MaxInt32, math.MaxUint32, 1 << 32, 1<<32 + 1, 1<<32 + 31, 1 << 62,
			-1 << 32, -1<<32 + 5, math.MinInt, math.MinInt + 1, math.MinInt + 31, math.MaxInt - 1, math.MaxInt} {
			checkLeafHash(t, "a number far out", number, n)
			if got := node.LeafHash(number, n); len(got) != 0 {
				t.Errorf("leaf %d: got %x", number, got)
			}
		}
	}
}

// P19.2: hashes of children and siblings of any length, beside nodes that are
// valid and others.
func TestHashLengths(t *testing.T) {
	lengths := []int{0, 1, 2, 31, 32, 33, 55, 56, 64, 100, 255, 256, 1000, 65535, 65536}
	for _, n := range append([]api.Node{{}, leaf(), branch(), {Kind: 2, Key: 9}}, wrongs()...) {
		for _, left := range lengths {
			checkParentHash(t, "a sibling", n, text(left))
			for _, right := range []int{0, 1, 32, 100} {
				checkBranchHash(t, "children", n, text(left), text(right))
				checkBranchHash(t, "children", n, text(right), text(left))
			}
		}
		for _, left := range none[byte]() {
			checkParentHash(t, "no sibling", n, left)
			for _, right := range append(none[byte](), text(32)) {
				checkBranchHash(t, "no child", n, left, right)
				checkBranchHash(t, "no child", n, right, left)
			}
		}
	}
}

// P19.2: a digest has 32 octets, and there is one of each valid node; of a
// node's hashes only the last one asks for its kind.
func TestHashKinds(t *testing.T) {
	for _, n := range samples() {
		if len(node.LeafHash(0, n)) != 32 || len(node.BranchHash(n, nil, nil)) != 32 {
			t.Errorf("%s: no hash", short(n))
		}
		if got := len(node.ParentHash(n, nil)); got != 32 && n.Kind == 2 || got != 0 && n.Kind != 2 {
			t.Errorf("%s: a parent hash of %d octets", short(n), got)
		}
	}
	for _, n := range wrongs() {
		if len(node.LeafHash(0, n)) != 0 || len(node.BranchHash(n, text(32), text(32))) != 0 || len(node.ParentHash(n, text(32))) != 0 {
			t.Errorf("%s: a hash", short(n))
		}
	}
}

// P19.2: two nodes that differ in a field, two numbers, two children or two
// siblings have different hashes, and so have those of different kinds.
func TestHashesDiffer(t *testing.T) {
	seen := map[string]string{}
	add := func(what string, hash []byte) {
		t.Helper()
		if before, ok := seen[string(hash)]; ok || len(hash) != 32 {
			t.Errorf("%s: %x, as of %s", what, hash, before)
		}
		seen[string(hash)] = what
	}
	for _, n := range samples() {
		for number := range 32 {
			add(short(n)+", leaf "+strconv.Itoa(number), node.LeafHash(number, n))
		}
		for _, left := range []string{"", "a", "ab"} {
			for _, right := range []string{"", "c", "cd"} {
				add(short(n)+", above "+left+" and "+right, node.BranchHash(n, []byte(left), []byte(right)))
			}
		}
		if n.Kind == 2 && len(n.Unmerged) == 0 {
			for _, beside := range []string{"", "a", "ab", "c"} {
				add(short(n)+", parent beside "+beside, node.ParentHash(n, []byte(beside)))
			}
		}
	}
}

// P19.2: nodes that differ in one bit have different hashes.
func TestHashBits(t *testing.T) {
	for _, n := range []api.Node{leaf(), branch()} {
		differ := func(other api.Node, parents bool) {
			t.Helper()
			if bytes.Equal(node.LeafHash(3, n), node.LeafHash(3, other)) || bytes.Equal(node.BranchHash(n, text(32), text(31)), node.BranchHash(other, text(32), text(31))) {
				t.Errorf("%s; %s: the same hash", short(n), short(other))
			}
			if n.Kind == 2 && bytes.Equal(node.ParentHash(n, text(32)), node.ParentHash(other, text(32))) != !parents {
				t.Errorf("%s; %s: the parent hash", short(n), short(other))
			}
		}
		for bit := range 60 {
			other := plain(n)
			other.Key ^= 1 << bit
			differ(other, true)
		}
		for bit := range 256 {
			other := plain(n)
			other.Parent[bit/8] ^= 1 << (bit % 8)
			differ(other, true)
		}
		for bit := range 8 * len(n.Name) {
			other := plain(n)
			other.Name[bit/8] ^= 1 << (bit % 8)
			differ(other, true)
		}
		if n.Kind == 2 { // the parent hash doesn't tell of Unmerged
			for _, unmerged := range [][]int{nil, {2}, {5}, {2, 6}, {1, 5}, {2, 3, 5}, counting(0, 32)} {
				differ(with(n, func(n *api.Node) { n.Unmerged = unmerged }), false)
			}
		}
		differ(with(n, func(n *api.Node) { n.Parent = nil }), true)
	}
}

// P19.2: both hashes of children follow each other, wherever they are divided.
func TestBranchHashDivided(t *testing.T) {
	b := text(64)
	want := node.BranchHash(branch(), b, nil)
	for i := range len(b) + 1 {
		if got := node.BranchHash(branch(), b[:i], b[i:]); !bytes.Equal(got, want) {
			t.Errorf("at %d: got %x", i, got)
		}
	}
	if bytes.Equal(node.BranchHash(branch(), b[:32], b[32:]), node.BranchHash(branch(), b[32:], b[:32])) {
		t.Error("the same hash with the children exchanged")
	}
}

// lists are what a Name and a Parent may be, numbers what an Unmerged may be.
func lists() [][]byte {
	return [][]byte{nil, {0}, {1}, {0, 0}, {0, 1}, {1, 0}, {255}, []byte("bob"), text(16), text(17), text(32), make([]byte, 32), text(300)}
}

func numbers() [][]int {
	return [][]int{nil, {0}, {1}, {0, 0}, {0, 1}, {1, 0}, {2, 5}, {5, 2}, {-1}, {255}, {256}, {1 << 32}, {math.MinInt}, {math.MaxInt}, counting(0, 32), counting(0, 33), counting(0, 300)}
}

// P19.3: nodes are equal if all fields are, valid or not, whatever is behind
// their lists; each of them is equal to itself.
func TestSame(t *testing.T) {
	for _, n := range append(samples(), wrongs()...) {
		checkSame(t, "itself", n, n, true)
		checkSame(t, "a copy", n, plain(n), true)
		checkSame(t, "another memory", roomyNode(n), n, true)
	}
	all := append(samples(), wrongs()...)
	for i, a := range all {
		for k, b := range all {
			checkSame(t, "two nodes", a, b, i == k)
		}
	}
}

// P19.3: empty lists are equal in each way there is of them.
func TestSameEmpty(t *testing.T) {
	for _, x := range none[byte]() {
		for _, y := range none[byte]() {
			for i, numbers := range none[int]() {
				for kind := -1; kind < 4; kind++ {
					a := api.Node{Kind: kind, Name: x, Parent: y, Unmerged: numbers}
					b := api.Node{Kind: kind, Name: y, Parent: x, Unmerged: none[int]()[(i+1)%4]}
					checkSame(t, "empty lists", a, b, true)
				}
			}
		}
	}
}

// P19.3: nodes that differ in exactly one field, by any bit of a number, or in
// one element of a list, or in its length.
func TestSameFields(t *testing.T) {
	for _, a := range append(samples(), wrongs()...) {
		differ := func(change func(*api.Node)) {
			t.Helper()
			checkSame(t, "one field", a, with(a, change), false)
		}
		for bit := range 64 {
			differ(func(n *api.Node) { n.Kind ^= 1 << bit })
			differ(func(n *api.Node) { n.Key ^= 1 << bit })
		}
		for i := range a.Name {
			differ(func(n *api.Node) { n.Name[i] ^= 1 << (i % 8) })
			differ(func(n *api.Node) { n.Name = n.Name[:i] })
		}
		for i := range a.Parent {
			differ(func(n *api.Node) { n.Parent[i] ^= 1 << (i % 8) })
			differ(func(n *api.Node) { n.Parent = n.Parent[:i] })
		}
		for i := range a.Unmerged {
			for _, bit := range []int{0, 1, 4, 7, 8, 31, 32, 62, 63} {
				differ(func(n *api.Node) { n.Unmerged[i] ^= 1 << bit })
			}
			differ(func(n *api.Node) { n.Unmerged = n.Unmerged[:i] })
		}
		differ(func(n *api.Node) { n.Name = append(n.Name, 0) })
		differ(func(n *api.Node) { n.Parent = append(n.Parent, 0) })
		differ(func(n *api.Node) { n.Unmerged = append(n.Unmerged, 0) })
		differ(func(n *api.Node) { n.Unmerged = append([]int{0}, n.Unmerged...) })
	}
}

// P19.3: lists of two nodes are held against those of the same field.
func TestSameLists(t *testing.T) {
	for i, x := range lists() {
		for k, y := range lists() {
			checkSame(t, "names", api.Node{Kind: 1, Name: x}, api.Node{Kind: 1, Name: y}, i == k)
			checkSame(t, "parents", api.Node{Kind: 2, Parent: x}, api.Node{Kind: 2, Parent: y}, i == k)
			checkSame(t, "exchanged", api.Node{Name: x, Parent: y}, api.Node{Name: y, Parent: x}, i == k)
			checkSame(t, "moved", api.Node{Name: x}, api.Node{Parent: y}, i == 0 && k == 0)
		}
	}
	for i, x := range numbers() {
		for k, y := range numbers() {
			checkSame(t, "numbers", api.Node{Kind: 2, Unmerged: x}, api.Node{Kind: 2, Unmerged: y}, i == k)
		}
	}
	checkSame(t, "kind and key", api.Node{Kind: 1, Key: 2}, api.Node{Kind: 2, Key: 1}, false)
}

// P19.3: Same tells what Go's own library tells, of any nodes.
func TestSameAny(t *testing.T) {
	r := rand.New(rand.NewSource(21))
	for range 20000 {
		var pair [2]api.Node
		for i := range pair {
			pair[i] = api.Node{Kind: r.Intn(8) / 7, Name: text(r.Intn(2)), Key: r.Uint64() % 8 / 7, Parent: text(r.Intn(2)), Unmerged: counting(4, r.Intn(2))}
		}
		checkSame(t, "any nodes", pair[0], pair[1], alike(pair[0], pair[1]))
	}
}

// cloned are nodes of all sorts, valid or not.
func cloned() []api.Node {
	all := append(samples(), wrongs()...)
	for _, name := range lists() {
		for _, unmerged := range numbers() {
			all = append(all, api.Node{Kind: len(all) - 100, Name: name, Key: uint64(len(all)), Parent: lists()[len(all)%len(lists())], Unmerged: unmerged})
		}
	}
	return all
}

// P19.3: a clone is equal to its node, and has memory of its own: whichever of
// both is changed, with what is behind its lists, the other one is as before.
func TestClone(t *testing.T) {
	for _, want := range cloned() {
		n := roomyNode(want)
		before := plain(wholeNode(n))
		c := node.Clone(n)
		if !alike(c, want) || !node.Same(c, n) {
			t.Errorf("%s: cloned %s", short(want), short(c))
		}
		spoilNode(c)
		if !alike(wholeNode(n), before) {
			t.Errorf("%s: a changed clone changed the node", short(want))
		}
		c = node.Clone(n)
		spoilNode(n)
		if !alike(c, want) {
			t.Errorf("%s: a changed node changed the clone", short(want))
		}
	}
}

// P19.3: the empty lists of a node with something behind them have none of it
// in a clone.
func TestCloneEmpty(t *testing.T) {
	for _, empty := range none[byte]() {
		for _, numbers := range none[int]() {
			n := api.Node{Kind: 2, Name: empty, Key: 9, Parent: empty, Unmerged: numbers}
			before := plain(wholeNode(n))
			c := node.Clone(n)
			if len(c.Name)+len(c.Parent)+len(c.Unmerged) != 0 || !alike(c, n) {
				t.Errorf("cloned %s", short(c))
			}
			c.Name, c.Parent, c.Unmerged = append(c.Name, 1), append(c.Parent, 2), append(c.Unmerged, 3)
			spoilNode(c)
			if !alike(wholeNode(n), before) {
				t.Error("a changed clone changed the node")
			}
		}
	}
}

// checkApart changes the lists of a node one after the other, with what is
// behind them, and the others stay as they are.
func checkApart(t *testing.T, what string, n api.Node) {
	t.Helper()
	name, parent := plain(wholeNode(n)).Name, plain(wholeNode(n)).Parent
	spoil(n.Name)
	if !bytes.Equal(whole(n.Parent), parent) {
		t.Errorf("%s: Name is in Parent's memory", what)
	}
	spoil(n.Name)
	spoil(n.Parent)
	if !bytes.Equal(whole(n.Name), name) {
		t.Errorf("%s: Parent is in Name's memory", what)
	}
	spoil(n.Parent)
}

// Rule 5: two lists of one result share no memory, also if they did in the
// argument.
func TestListsAreApart(t *testing.T) {
	b := roomy(text(40))
	nodes := []api.Node{{Kind: 1, Name: b[:16], Parent: b[:32]}, {Name: b, Parent: b}, {Name: b[:10], Parent: b[10:]}, {Name: b[8:], Parent: b[:8]}}
	for i := range 10 { // a copy of few octets may have room for more
		for k := range 10 {
			nodes = append(nodes, api.Node{Name: b[:i], Parent: b[:k]})
		}
	}
	for _, n := range nodes {
		c := node.Clone(n)
		if !alike(c, n) {
			t.Errorf("%s: cloned %s", short(n), short(c))
		}
		checkApart(t, "a clone", c)
	}
	for _, n := range samples() {
		checkApart(t, "a node that was read", node.Read(wire.Open(roomy(encoded(n)))))
	}
}

// P19.3: what is read is new memory.
func TestReadIsNewMemory(t *testing.T) {
	for _, n := range samples() {
		in := roomy(join(encoded(n), encoded(n)))
		before := bytes.Clone(whole(in))
		e := wire.Open(in)
		first := node.Read(e)
		spoilNode(first)
		second := node.Read(e)
		if !alike(second, n) || e.End() != api.OK {
			t.Errorf("%s: a changed result changed the reader: read %s, %v", short(n), short(second), e.End())
		}
		if !bytes.Equal(whole(in), before) {
			t.Errorf("%s: a changed result changed the argument", short(n))
		}
		spoil(in)
		if !alike(second, n) {
			t.Errorf("%s: a changed argument changed the result", short(n))
		}
		if got := node.Read(wire.Open(encoded(n))); !alike(got, n) {
			t.Errorf("%s: read %s", short(n), short(got))
		}
	}
}

// P19.3: what a writer has is its own memory.
func TestWriteKeepsNothing(t *testing.T) {
	for _, want := range samples() {
		n, p := roomyNode(want), wire.New()
		node.Write(p, n)
		spoilNode(n)
		b, ok := p.Bytes()
		if !ok || !bytes.Equal(b, encoded(want)) {
			t.Errorf("%s: a changed argument changed the writer: %x", short(want), b)
		}
		spoil(b)
		if b, _ := p.Bytes(); !bytes.Equal(b, encoded(want)) {
			t.Errorf("%s: a changed result changed the writer: %x", short(want), b)
		}
	}
}

// call is one of a hash.
type call struct {
	what string
	run  func(n api.Node, left, right []byte) []byte
	want func(n api.Node, left, right []byte) []byte
}

func calls() []call {
	return []call{
		{"LeafHash", func(n api.Node, _, _ []byte) []byte { return node.LeafHash(7, n) },
			func(n api.Node, _, _ []byte) []byte { return leafHash(7, n) }},
		{"BranchHash", node.BranchHash, branchHash},
		{"ParentHash", func(n api.Node, left, _ []byte) []byte { return node.ParentHash(n, left) },
			func(n api.Node, left, _ []byte) []byte { return parentHash(n, left) }},
	}
}

// P19.3: hashes are new memory.
func TestHashesAreNewMemory(t *testing.T) {
	for _, c := range calls() {
		for _, n := range append(samples(), wrongs()...) {
			for _, length := range []int{0, 1, 32, 100} {
				x, left, right := roomyNode(n), roomy(text(length)), roomy(text(length+1))
				want := c.want(n, text(length), text(length+1))
				before := plain(wholeNode(x))
				first, second := c.run(x, left, right), c.run(x, left, right)
				spoil(first)
				if !bytes.Equal(second, want) || !bytes.Equal(c.run(x, left, right), want) {
					t.Errorf("%s of %s: a changed result changed more", c.what, short(n))
				}
				if !alike(wholeNode(x), before) || !bytes.Equal(whole(left), whole(roomy(text(length)))) || !bytes.Equal(whole(right), whole(roomy(text(length+1)))) {
					t.Errorf("%s of %s: an argument was changed", c.what, short(n))
				}
				spoilNode(x)
				spoil(left)
				spoil(right)
				if !bytes.Equal(second, want) {
					t.Errorf("%s of %s: a changed argument changed the result", c.what, short(n))
				}
			}
		}
	}
}

// P19.3: arguments may share memory, and stay as they were.
func TestSharedArguments(t *testing.T) {
	b := roomy(text(96))
	before := bytes.Clone(whole(b))
	all := [][]byte{b[:0], b[:32], b[16:48], b[32:64], b[64:], b}
	for _, n := range []api.Node{{Kind: 2, Key: 9, Parent: b[:32]}, {Kind: 2, Key: 9, Parent: b[32:64]}, {Kind: 1, Name: b[:16], Key: 9, Parent: b[:32]}} {
		for _, left := range all {
			for _, right := range all {
				for _, c := range calls() {
					want := c.want(plain(n), bytes.Clone(left), bytes.Clone(right))
					if got := c.run(n, left, right); !bytes.Equal(got, want) {
						t.Errorf("%s of %s: got %x", c.what, short(n), got)
					}
				}
				node.Same(n, api.Node{Kind: 2, Name: left, Parent: right})
				if !bytes.Equal(whole(b), before) {
					t.Fatalf("%s: an argument was changed", short(n))
				}
			}
		}
	}
}

// P19.3: nodes and what is behind their lists stay as they were, whether there
// is a result or not.
func TestArgumentsAreNotChanged(t *testing.T) {
	for _, n := range append(cloned(), samples()...) {
		x, y := roomyNode(n), roomyNode(n)
		before := plain(wholeNode(x))
		node.Right(x)
		written(x)
		node.Same(x, y)
		node.Clone(x)
		for _, c := range calls() {
			c.run(x, x.Name, x.Parent)
		}
		if !alike(wholeNode(x), before) || !alike(wholeNode(y), before) {
			t.Errorf("%s: an argument was changed", short(n))
		}
	}
	for _, n := range samples() {
		in := roomy(encoded(n))
		before := bytes.Clone(whole(in))
		for i := range len(in) + 2 {
			node.Read(wire.Open(in[:i]))
		}
		if !bytes.Equal(whole(in), before) {
			t.Errorf("%s: the octets were changed", short(n))
		}
	}
}

// Rule 7: a call's result doesn't depend on the calls before it.
func TestCallsAreApart(t *testing.T) {
	for range 3 {
		for _, wrong := range wrongs() {
			checkWrong(t, "again", wrong)
			checkRight(t, "again", leaf())
			checkRefused(t, "again", []byte{3}, api.ErrForm)
			checkRefused(t, "again", encoded(branch())[:9], api.ErrShort)
			checkRight(t, "again", branch())
			checkRight(t, "again", api.Node{})
		}
	}
}

// P19.1: any octets.
func FuzzRead(f *testing.F) {
	for _, n := range samples() {
		f.Add(encoded(n))
	}
	f.Add([]byte{1, 17, 0})
	f.Add([]byte{3})
	f.Fuzz(func(t *testing.T, b []byte) {
		checkParsed(t, "any octets", b)
		if n, _, x := parsed(b); x == api.OK {
			checkRight(t, "any octets", n)
		}
	})
}

// P19.1 to P19.3: any nodes, with any hashes beside them.
func FuzzNode(f *testing.F) {
	f.Add(1, []byte("bob"), uint64(258), text(32), []byte{}, 0, []byte("l"), []byte("r"))
	f.Add(2, []byte{}, uint64(7), text(32), []byte{2, 5}, 0, text(32), text(32))
	f.Add(0, []byte{}, uint64(0), []byte{}, []byte{}, -1, []byte{}, []byte{})
	f.Fuzz(func(t *testing.T, kind int, name []byte, key uint64, parent, octets []byte, add int, left, right []byte) {
		n := api.Node{Kind: kind, Name: name, Key: key, Parent: parent}
		for _, b := range octets {
			n.Unmerged = append(n.Unmerged, int(b)+add)
		}
		if valid(n) {
			checkRight(t, "any node", n)
		} else {
			checkWrong(t, "any node", n)
		}
		checkLeafHash(t, "any number", add, n)
		checkBranchHash(t, "any children", n, left, right)
		checkParentHash(t, "any sibling", n, left)
		checkSame(t, "a clone", n, node.Clone(n), true)
	})
}
