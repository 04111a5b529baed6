package vault_test

import (
	"bytes"
	library "crypto/aes"
	"crypto/hmac"
	"crypto/sha256"
	"encoding/binary"
	"encoding/hex"
	"math"
	"math/big"
	"math/rand"
	"slices"
	"testing"

	"engrosser/api"
	"engrosser/kdf"
	"engrosser/seal"
	"engrosser/vault"
)

const maxEpoch = 1 << 20

// text is n octets that differ from their neighbours.
func text(n int) []byte {
	b := make([]byte, n)
	for i := range b {
		b[i] = byte(i*7 + i>>8 + 1)
	}
	return b
}

// counting are n octets, each one greater than the one before it.
func counting(first, n int) []byte {
	b := make([]byte, n)
	for i := range b {
		b[i] = byte(first + i)
	}
	return b
}

// same are n octets b.
func same(b byte, n int) []byte {
	return bytes.Repeat([]byte{b}, n)
}

func octets(t *testing.T, digits string) []byte {
	t.Helper()
	b, err := hex.DecodeString(digits)
	if err != nil {
		t.Fatal(err)
	}
	return b
}

// noise is n octets of any value.
func noise(r *rand.Rand, n int) []byte {
	b := make([]byte, n)
	r.Read(b)
	return b
}

// roomy is a copy of b with something behind it.
func roomy(b []byte) []byte {
	return append(bytes.Clone(b), bytes.Repeat([]byte{0xee}, 70)...)[:len(b)]
}

// whole is b with what is behind it.
func whole(b []byte) []byte {
	return b[:cap(b)]
}

// spoil changes each octet of b and of its spare capacity.
func spoil(b []byte) {
	b = whole(b)
	for i := range b {
		b[i] ^= 255
	}
}

// changed is a copy of b with one bit changed.
func changed(b []byte, bit int) []byte {
	b = bytes.Clone(b)
	b[bit/8] ^= 1 << (bit % 8)
	return b
}

// none are no octets, in each way there is of it.
func none() [][]byte {
	return [][]byte{nil, {}, make([]byte, 0, 9), roomy(nil)}
}

// tag is a tag of parts by Go's own library.
func tag(key []byte, parts ...[]byte) []byte {
	h := hmac.New(sha256.New, key)
	for _, part := range parts {
		h.Write(part)
	}
	return h.Sum(nil)
}

// labelled is a labelled secret by Go's own library, laid out by hand.
func labelled(secret []byte, label string, context []byte, n int) []byte {
	info := binary.BigEndian.AppendUint16(nil, uint16(n))
	info = append(info, byte(4+len(label)))
	info = append(info, "mls "+label...)
	info = binary.BigEndian.AppendUint16(info, uint16(len(context)))
	info = append(info, context...)
	var out, last []byte
	for i := 1; len(out) < n; i++ {
		last = tag(secret, last, info, []byte{byte(i)})
		out = append(out, last...)
	}
	return out[:n]
}

// masked is a text encrypted by the block cipher of Go's own library.
func masked(t *testing.T, key, nonce, text []byte) []byte {
	t.Helper()
	c, err := library.NewCipher(key)
	if err != nil {
		t.Fatal(err)
	}
	out, block, mask := bytes.Clone(text), bytes.Clone(nonce), make([]byte, 16)
	for i := range out {
		if i%16 == 0 {
			c.Encrypt(mask, block)
			binary.BigEndian.PutUint32(block[12:], binary.BigEndian.Uint32(block[12:])+1)
		}
		out[i] ^= mask[i%16]
	}
	return out
}

// sealed is a sealed text by Go's own library.
func sealed(t *testing.T, key, nonce, beside, text []byte) []byte {
	t.Helper()
	b := masked(t, key[:16], nonce, text)
	length := binary.BigEndian.AppendUint32(nil, uint32(len(beside)))
	return append(b, tag(key[16:], length, beside, nonce, b)[:16]...)
}

// contextOf is a context by the chapter's Terms.
func contextOf(group []byte, epoch int) []byte {
	b := append([]byte{byte(len(group))}, group...)
	return binary.BigEndian.AppendUint64(b, uint64(epoch))
}

// wrappedOf is a wrapped secret by the chapter's Terms; the secret may have any
// length here.
func wrappedOf(t *testing.T, key, group []byte, epoch int, secret []byte) []byte {
	t.Helper()
	c := contextOf(group, epoch)
	return sealed(t, labelled(key, "wrap", nil, 48), labelled(key, "nonce", c, 16), c, secret)
}

// hasContext tells whether there is a context.
func hasContext(group []byte, epoch int) bool {
	return len(group) <= 16 && 0 <= epoch && epoch <= maxEpoch
}

// groups have contexts.
func groups() [][]byte {
	return [][]byte{
		nil, {}, {0}, {1}, {255}, []byte("g"), []byte("ab"), []byte("grp"), same(0, 2), same(255, 2), {0, 1}, {1, 0},
		{8, 0, 0, 0, 0, 0, 0, 0}, text(7), text(8), text(9), text(15), same(0, 15), text(16), same(0, 16), same(255, 16),
		[]byte("group of letters"), []byte("\xff\xfe\x80\n\x00\"é"),
	}
}

// longGroups have none.
func longGroups() [][]byte {
	return [][]byte{
		text(17), same(0, 17), []byte("seventeen octets!"), text(18), text(31), text(32), text(48), text(255), text(256), text(257),
		text(272), text(65535), text(65536),
	}
}

// epochs have contexts.
func epochs() []int {
	return []int{0, 1, 2, 127, 128, 255, 256, 257, 258, 65535, 65536, 65537, 0x012345, maxEpoch - 1, maxEpoch}
}

// wrongEpochs have none.
func wrongEpochs() []int {
	return []int{
		-1, -2, -255, -256, -maxEpoch, math.MinInt32, math.MinInt, math.MinInt + 1, maxEpoch + 1, maxEpoch + 2, 2 * maxEpoch,
		math.MaxInt32, math.MaxUint32, 1 << 32, 1<<32 + 1, 1 << 40, math.MaxInt - 1, math.MaxInt,
	}
}

// checkContext asks for a context that there is.
func checkContext(t *testing.T, group []byte, epoch int) {
	t.Helper()
	if got, want := vault.Context(group, epoch), contextOf(group, epoch); !bytes.Equal(got, want) {
		t.Errorf("group %x, epoch %d: got %x, want %x", group, epoch, got, want)
	}
}

// checkNoContext asks for a context that there isn't, and wraps and unwraps
// with that group and epoch, all else being right.
func checkNoContext(t *testing.T, group []byte, epoch int) {
	t.Helper()
	if got := vault.Context(group, epoch); len(got) != 0 {
		t.Errorf("group of %d octets, epoch %d: got %x", len(group), epoch, got)
	}
	key, secret := text(32), counting(5, 32)
	checkNotWrapped(t, "no context", key, group, epoch, secret)
	checkNotUnwrapped(t, "no context", key, group, epoch, wrappedOf(t, key, group, epoch, secret), api.ErrArg)
}

// checkBoth wraps what can be wrapped, and unwraps it.
func checkBoth(t *testing.T, key, group []byte, epoch int, secret []byte) {
	t.Helper()
	b, x := vault.Wrap(key, group, epoch, secret)
	if want := wrappedOf(t, key, group, epoch, secret); x != api.OK || !bytes.Equal(b, want) {
		t.Errorf("Wrap, key %x, group %x, epoch %d, secret %x: got %x, %v, want %x", key, group, epoch, secret, b, x, want)
	}
	checkUnwrap(t, key, group, epoch, b, secret)
}

// checkUnwrap unwraps what can be unwrapped.
func checkUnwrap(t *testing.T, key, group []byte, epoch int, b, secret []byte) {
	t.Helper()
	if got, x := vault.Unwrap(key, group, epoch, b); x != api.OK || !bytes.Equal(got, secret) {
		t.Errorf("Unwrap, key %x, group %x, epoch %d, %x: got %x, %v, want %x", key, group, epoch, b, got, x, secret)
	}
}

// checkNotWrapped wraps what cannot be wrapped.
func checkNotWrapped(t *testing.T, what string, key, group []byte, epoch int, secret []byte) {
	t.Helper()
	if b, x := vault.Wrap(key, group, epoch, secret); x != api.ErrArg || len(b) != 0 {
		t.Errorf("Wrap, %s (key of %d, group of %d, secret of %d octets, epoch %d): got %x, %v",
			what, len(key), len(group), len(secret), epoch, b, x)
	}
}

// checkNotUnwrapped unwraps what cannot be unwrapped.
func checkNotUnwrapped(t *testing.T, what string, key, group []byte, epoch int, wrapped []byte, want api.Errno) {
	t.Helper()
	if b, x := vault.Unwrap(key, group, epoch, wrapped); x != want || len(b) != 0 {
		t.Errorf("Unwrap, %s (key of %d, group of %d, wrapped of %d octets, epoch %d): got %x, %v, want %v",
			what, len(key), len(group), len(wrapped), epoch, b, x, want)
	}
}

// known is a wrapped secret that was made by another program.
type known struct {
	key, group      []byte
	epoch           int
	secret          []byte
	context, sealed string
}

// knowns were made with Python's library for HKDF, AES and HMAC.
func knowns() []known {
	return []known{
		{
			same(0, 32), nil, 0, same(0, 32),
			"000000000000000000",
			"4b077b1329b5828dadd6e3057c80c1553346ac3f3f40f42846f67e37abc6cf48aa5066ce2df15f2ff88b954cfa6ad610",
		},
		{
			counting(0, 32), []byte("grp"), 258, counting(0x40, 32),
			"036772700000000000000102",
			"703ec9c182ebb0ed8a32478a6374c093b7933b0b89ccecab45ef1d1e8a141e060ef6b824636e3d234270a4453e4d3de6",
		},
		{
			same(255, 32), []byte("sixteen octets, "), maxEpoch, same(255, 32),
			"107369787465656e206f63746574732c200000000000100000",
			"d7248f0dc9c0056fef0e4ee11f679a1e3fdb5bff0f0dbc7f02621c44d849ea7eb6e6e5a51cd9db9d9d5d8de247e6954c",
		},
		{
			counting(100, 32), []byte{0, 1}, 1, counting(0xf0, 32),
			"0200010000000000000001",
			"7c88dd7ee8418b5fc8f50844518ec90ac7e882e1e95129d172ceda8e1b0551ebbf063c549132324a8e514f9e642eebd3",
		},
	}
}

// P17.1, P17.2: contexts and wrapped secrets that were made by another program.
func TestKnown(t *testing.T) {
	for i, k := range knowns() {
		if got := hex.EncodeToString(vault.Context(k.group, k.epoch)); got != k.context {
			t.Errorf("%d: context %s", i, got)
		}
		b, x := vault.Wrap(k.key, k.group, k.epoch, k.secret)
		if got := hex.EncodeToString(b); x != api.OK || got != k.sealed {
			t.Errorf("%d: wrapped %s, %v", i, got, x)
		}
		checkUnwrap(t, k.key, k.group, k.epoch, octets(t, k.sealed), k.secret)
	}
}

// P17.1: the limits that the chapter names are those of api.
func TestLimits(t *testing.T) {
	if api.MaxEpoch != maxEpoch || api.HashSize != 32 || api.TagSize != 16 || api.KeySize != 48 || api.NonceSize != 16 {
		t.Error("other limits")
	}
}

// P17.1: groups of up to 16 octets have a context, with any octets.
func TestContextGroups(t *testing.T) {
	for _, group := range groups() {
		for _, epoch := range epochs() {
			checkContext(t, group, epoch)
		}
	}
	for n := range 17 {
		checkContext(t, text(n), 3)
		checkContext(t, same(0, n), 0)
		checkContext(t, same(255, n), maxEpoch)
	}
	for c := range 256 {
		checkContext(t, []byte{byte(c)}, 9)
		checkContext(t, same(byte(c), 16), 9)
		checkContext(t, []byte{'g', byte(c), 'p'}, 9)
	}
}

// P17.1: without a group there is a context too, of an octet 0 and the epoch.
func TestContextOfNothing(t *testing.T) {
	for _, group := range none() {
		for _, epoch := range epochs() {
			if b := vault.Context(group, epoch); len(b) != 9 || b[0] != 0 || binary.BigEndian.Uint64(b[1:]) != uint64(epoch) {
				t.Errorf("epoch %d: got %x", epoch, b)
			}
		}
	}
}

// P17.1: longer groups have none, whatever the epoch, and nothing is wrapped or
// unwrapped with them.
func TestLongGroups(t *testing.T) {
	for _, group := range longGroups() {
		for _, epoch := range slices.Concat(epochs()[:3], wrongEpochs()[:3]) {
			checkNoContext(t, group, epoch)
		}
	}
	for n := 17; n < 300; n++ {
		checkNoContext(t, text(n), 3)
	}
}

// P17.1: epochs from 0 to MaxEpoch have a context, others don't.
func TestContextEpochs(t *testing.T) {
	for _, epoch := range epochs() {
		checkContext(t, []byte("ab"), epoch)
	}
	for epoch := range 1000 {
		checkContext(t, []byte("ab"), epoch)
		checkContext(t, text(16), maxEpoch-epoch)
	}
	for bit := range 21 {
		checkContext(t, nil, 1<<bit)
	}
	for _, epoch := range wrongEpochs() {
		for _, group := range groups() {
			checkNoContext(t, group, epoch)
		}
	}
	for bit := 21; bit < 64; bit++ {
		checkNoContext(t, []byte("ab"), 1<<bit)
		checkNoContext(t, []byte("ab"), 1<<bit|1)
		checkNoContext(t, []byte("ab"), -1<<(bit-1))
	}
}

// P17.1: different groups or epochs have different contexts.
func TestContextsDiffer(t *testing.T) {
	type of struct {
		group string
		epoch int
	}
	seen := map[string]of{}
	add := func(group []byte, epoch int) {
		b, this := string(vault.Context(group, epoch)), of{string(group), epoch}
		if other, ok := seen[b]; ok && other != this {
			t.Errorf("%v and %v: both %x", other, this, b)
		}
		seen[b] = this
	}
	for _, epoch := range epochs() {
		for _, group := range groups() {
			add(group, epoch)
		}
		for n := range 17 {
			add(same(0, n), epoch)
			add(same(1, n), epoch)
			add(text(n), epoch)
		}
		for bit := range 128 {
			add(changed(text(16), bit), epoch)
		}
	}
	for epoch := range 5000 {
		add([]byte("ab"), epoch)
		add([]byte("ba"), epoch*209)
	}
}

// secrets have the right length.
func secrets() [][]byte {
	return [][]byte{same(0, 32), same(255, 32), text(32), counting(0xf0, 32), append(same(0, 31), 1)}
}

// P17.1 and P17.3: what is wrapped by the chapter's Terms, and unwrapped again.
func TestWrap(t *testing.T) {
	for _, group := range groups() {
		for _, epoch := range epochs() {
			checkBoth(t, counting(7, 32), group, epoch, text(32))
		}
	}
	for _, key := range secrets() {
		for _, secret := range secrets() {
			checkBoth(t, key, []byte("ab"), 258, secret)
			checkBoth(t, key, nil, 0, secret)
			checkBoth(t, key, text(16), maxEpoch, secret)
		}
	}
}

// P17.1: what is wrapped is what the lower layers seal with the labelled
// secrets and the context.
func TestWrapIsSealed(t *testing.T) {
	key, secret := counting(7, 32), text(32)
	for _, group := range groups() {
		for _, epoch := range epochs() {
			c := vault.Context(group, epoch)
			sealKey, ok := kdf.Label(key, "wrap", nil, 48)
			nonce, other := kdf.Label(key, "nonce", c, 16)
			want, x := seal.Seal(sealKey, nonce, c, secret)
			if !ok || !other || x != api.OK {
				t.Fatal("the lower layers don't seal")
			}
			b, x := vault.Wrap(key, group, epoch, secret)
			if x != api.OK || len(b) != 48 || !bytes.Equal(b, want) {
				t.Errorf("group %x, epoch %d: got %x, %v, want %x", group, epoch, b, x, want)
			}
		}
	}
}

// P17.1 and P17.3: a group's epochs one after the other, each of which has a
// nonce of its own.
func TestManyEpochs(t *testing.T) {
	key, secret := counting(7, 32), text(32)
	for epoch := range 2000 {
		checkBoth(t, key, []byte("ab"), epoch, secret)
	}
}

// P17.1: every bit of the key, the group, the epoch and the secret matters: each
// is wrapped otherwise.
func TestEveryBit(t *testing.T) {
	key, group, epoch, secret := counting(7, 32), text(16), 0x54321, text(32)
	seen := map[string]string{}
	check := func(what string, key, group []byte, epoch int, secret []byte) {
		t.Helper()
		checkBoth(t, key, group, epoch, secret)
		b, _ := vault.Wrap(key, group, epoch, secret)
		for _, part := range []string{string(b[32:]), string(b)} {
			if at, ok := seen[part]; ok {
				t.Errorf("%s: wrapped as %s", what, at)
			}
			seen[part] = what
		}
	}
	check("plain", key, group, epoch, secret)
	for bit := range 256 {
		check("key", changed(key, bit), group, epoch, secret)
		check("secret", key, group, epoch, changed(secret, bit))
	}
	for bit := range 128 {
		check("group", key, changed(group, bit), epoch, secret)
	}
	for bit := range 20 {
		check("epoch", key, group, epoch^1<<bit, secret)
	}
	for n := range 16 {
		check("cut group", key, group[:n], epoch, secret)
	}
}

// P17.1: what hides a secret differs from one key, group or epoch to another, so
// that two wrapped secrets don't tell what is between them.
func TestMasksDiffer(t *testing.T) {
	seen := map[string]bool{}
	add := func(key, group []byte, epoch int) {
		b, x := vault.Wrap(key, group, epoch, same(0, 32))
		if x != api.OK {
			t.Fatal(x)
		}
		for i := range 2 {
			mask := string(b[16*i : 16*i+16])
			if seen[mask] {
				t.Errorf("key %x, group %x, epoch %d: block %d is masked as another one", key, group, epoch, i)
			}
			seen[mask] = true
		}
	}
	for epoch := range 500 {
		add(counting(7, 32), []byte("ab"), epoch)
		add(counting(7, 32), []byte("ac"), epoch)
		add(counting(8, 32), []byte("ab"), epoch)
	}
}

// P17.3: equal calls wrap alike.
func TestWrapTwice(t *testing.T) {
	for _, group := range groups() {
		first, x := vault.Wrap(text(32), group, 3, same(9, 32))
		second, y := vault.Wrap(text(32), bytes.Clone(group), 3, same(9, 32))
		if x != api.OK || y != api.OK || !bytes.Equal(first, second) {
			t.Errorf("group %x: %x, %v and %x, %v", group, first, x, second, y)
		}
	}
}

// sizes are lengths of keys and secrets.
func sizes() []int {
	return []int{0, 1, 15, 16, 17, 30, 31, 32, 33, 34, 47, 48, 49, 63, 64, 65, 96, 255, 256, 288}
}

// P17.1: keys and secrets of each length, with groups and epochs that have a
// context and ones that don't: there is one error, and nothing is wrapped.
func TestWrapLengths(t *testing.T) {
	for _, k := range sizes() {
		for _, s := range sizes() {
			for _, group := range [][]byte{nil, {}, text(1), text(16), text(17), text(272)} {
				for _, epoch := range []int{math.MinInt, -1, 0, 1, maxEpoch, maxEpoch + 1, math.MaxInt} {
					if k == 32 && s == 32 && hasContext(group, epoch) {
						checkBoth(t, text(k), group, epoch, text(s))
						continue
					}
					checkNotWrapped(t, "lengths", text(k), group, epoch, text(s))
				}
			}
		}
	}
	for n := range 300 {
		if n == 32 {
			continue
		}
		checkNotWrapped(t, "key", text(n), nil, 0, text(32))
		checkNotWrapped(t, "secret", text(32), nil, 0, text(n))
		checkNotWrapped(t, "key and secret", text(n), nil, 0, text(n))
		checkNotWrapped(t, "key and secret, 64 in all", text(n), nil, 0, text(max(0, 64-n)))
	}
}

// P17.2: keys and wrapped octets of each length, with groups and epochs that
// have a context and ones that don't: ErrArg, though most of it is not what was
// wrapped, either; of the right lengths it is ErrAuth.
func TestUnwrapLengths(t *testing.T) {
	for _, k := range sizes() {
		for _, w := range sizes() {
			for _, group := range [][]byte{nil, {}, text(1), text(16), text(17), text(272)} {
				for _, epoch := range []int{math.MinInt, -1, 0, 1, maxEpoch, maxEpoch + 1, math.MaxInt} {
					want := api.ErrArg
					if k == 32 && w == 48 && hasContext(group, epoch) {
						want = api.ErrAuth
					}
					checkNotUnwrapped(t, "lengths", text(k), group, epoch, text(w), want)
				}
			}
		}
	}
	for n := range 300 {
		if n != 32 {
			checkNotUnwrapped(t, "key", text(n), nil, 0, text(48), api.ErrArg)
		}
		if n != 48 {
			checkNotUnwrapped(t, "wrapped", text(32), nil, 0, text(n), api.ErrArg)
		}
	}
}

// P17.1 and P17.2: no octets, in each way there is of it.
func TestNothing(t *testing.T) {
	key, secret := text(32), counting(9, 32)
	for _, b := range none() {
		checkBoth(t, key, b, 0, secret)
		checkNotWrapped(t, "no key", b, []byte("ab"), 3, secret)
		checkNotWrapped(t, "no secret", key, []byte("ab"), 3, b)
		checkNotWrapped(t, "nothing", b, b, 0, b)
		checkNotUnwrapped(t, "no key", b, []byte("ab"), 3, wrappedOf(t, key, []byte("ab"), 3, secret), api.ErrArg)
		checkNotUnwrapped(t, "nothing wrapped", key, []byte("ab"), 3, b, api.ErrArg)
		checkNotUnwrapped(t, "nothing", b, b, 0, b, api.ErrArg)
	}
}

// P17.2: sealed with the right key, nonce and context, but not 32 octets: these
// were sealed, but never wrapped.
func TestUnwrapOtherSecrets(t *testing.T) {
	key, group := counting(7, 32), []byte("ab")
	for n := range 100 {
		b := wrappedOf(t, key, group, 3, text(n))
		if n == 32 {
			checkUnwrap(t, key, group, 3, b, text(n))
			continue
		}
		checkNotUnwrapped(t, "a secret of another length", key, group, 3, b, api.ErrArg)
		checkNotWrapped(t, "a secret of another length", key, group, 3, text(n))
	}
}

// P17.2: keys and wrapped secrets that are cut, or longer, are refused although
// their beginning, or their end, is right.
func TestUnwrapCutAndLong(t *testing.T) {
	key, group := counting(7, 32), []byte("ab")
	b := wrappedOf(t, key, group, 3, text(32))
	for n := range len(b) {
		checkNotUnwrapped(t, "a beginning", key, group, 3, b[:n], api.ErrArg)
		checkNotUnwrapped(t, "an end", key, group, 3, b[len(b)-n:], api.ErrArg)
	}
	for n := range len(key) {
		checkNotUnwrapped(t, "a key's beginning", key[:n], group, 3, b, api.ErrArg)
		checkNotUnwrapped(t, "a key's end", key[len(key)-n:], group, 3, b, api.ErrArg)
	}
	for _, more := range [][]byte{{0}, {255}, text(16), text(32), text(48)} {
		checkNotUnwrapped(t, "octets behind", key, group, 3, slices.Concat(b, more), api.ErrArg)
		checkNotUnwrapped(t, "octets ahead", key, group, 3, slices.Concat(more, b), api.ErrArg)
		checkNotUnwrapped(t, "octets behind a key", slices.Concat(key, more), group, 3, b, api.ErrArg)
		checkNotUnwrapped(t, "octets ahead of a key", slices.Concat(more, key), group, 3, b, api.ErrArg)
	}
}

// P17.2: a key that ends with zeros is as long as all others, though a tag's key
// is filled up with zeros, so that one of fewer octets would open the same.
func TestKeysThatEndWithZeros(t *testing.T) {
	for zeros := 1; zeros <= 32; zeros++ {
		key := append(text(32-zeros), same(0, zeros)...)
		b := wrappedOf(t, key[:32-zeros], []byte("ab"), 3, text(32))
		checkBoth(t, key, []byte("ab"), 3, text(32))
		checkUnwrap(t, key, []byte("ab"), 3, b, text(32))
		checkNotUnwrapped(t, "a key without its zeros", key[:32-zeros], []byte("ab"), 3, b, api.ErrArg)
		checkNotUnwrapped(t, "a key with more zeros", append(key, 0), []byte("ab"), 3, b, api.ErrArg)
		checkNotWrapped(t, "a key without its zeros", key[:32-zeros], []byte("ab"), 3, text(32))
	}
}

// P17.2: what was wrapped, with any single bit of it changed, or of the key, the
// group or the epoch.
func TestUnwrapChangedBits(t *testing.T) {
	key := counting(7, 32)
	for _, group := range [][]byte{nil, {0}, []byte("ab"), text(16)} {
		for _, epoch := range []int{0, 1, 258, maxEpoch} {
			b := wrappedOf(t, key, group, epoch, text(32))
			checkUnwrap(t, key, group, epoch, b, text(32))
			for bit := range 8 * len(b) {
				checkNotUnwrapped(t, "a bit of it changed", key, group, epoch, changed(b, bit), api.ErrAuth)
			}
			for bit := range 8 * len(key) {
				checkNotUnwrapped(t, "a bit of the key changed", changed(key, bit), group, epoch, b, api.ErrAuth)
			}
			for bit := range 8 * len(group) {
				checkNotUnwrapped(t, "a bit of the group changed", key, changed(group, bit), epoch, b, api.ErrAuth)
			}
			for bit := range 64 {
				other, want := epoch^1<<bit, api.ErrAuth
				if !hasContext(group, other) {
					want = api.ErrArg
				}
				checkNotUnwrapped(t, "a bit of the epoch changed", key, group, other, b, want)
			}
		}
	}
}

// P17.2: two octets of what was wrapped that are exchanged, or changed alike.
func TestUnwrapTwoChanges(t *testing.T) {
	key, group := counting(7, 32), []byte("ab")
	b := wrappedOf(t, key, group, 3, text(32))
	for i := range b {
		for k := range i {
			alike := bytes.Clone(b)
			alike[i], alike[k] = b[i]^0x41, b[k]^0x41
			checkNotUnwrapped(t, "changed alike", key, group, 3, alike, api.ErrAuth)
			if b[i] != b[k] {
				other := bytes.Clone(b)
				other[i], other[k] = b[k], b[i]
				checkNotUnwrapped(t, "exchanged", key, group, 3, other, api.ErrAuth)
			}
		}
	}
}

// P17.2: with the group, the epoch or the key of another wrapped secret, also of
// one whose context has the same octets elsewhere.
func TestUnwrapWithAnother(t *testing.T) {
	type of struct {
		key, group []byte
		epoch      int
	}
	var all []of
	for _, key := range [][]byte{counting(7, 32), counting(8, 32), same(0, 32)} {
		for _, group := range [][]byte{nil, {0}, {0, 0}, {1}, {0, 1}, {1, 0}, []byte("ab"), []byte("ba"), text(15), text(16), same(0, 16)} {
			for _, epoch := range []int{0, 1, 256, 257, 65536, maxEpoch} {
				all = append(all, of{key, group, epoch})
			}
		}
	}
	secret := counting(3, 32)
	for i, x := range all {
		b, e := vault.Wrap(x.key, x.group, x.epoch, secret)
		if e != api.OK {
			t.Fatal(e)
		}
		for j, y := range all {
			if i == j {
				checkUnwrap(t, y.key, y.group, y.epoch, b, secret)
				continue
			}
			checkNotUnwrapped(t, "another's", y.key, y.group, y.epoch, b, api.ErrAuth)
		}
	}
}

// P17.2: sealed, but otherwise than a secret is wrapped.
func TestUnwrapSealedOtherwise(t *testing.T) {
	key, group, secret := counting(7, 32), []byte("ab"), text(32)
	c := contextOf(group, 3)
	sealKey, nonce := labelled(key, "wrap", nil, 48), labelled(key, "nonce", c, 16)
	checkUnwrap(t, key, group, 3, sealed(t, sealKey, nonce, c, secret), secret)
	tests := map[string][]byte{
		"without the context beside":    sealed(t, sealKey, nonce, nil, secret),
		"the group beside":              sealed(t, sealKey, nonce, group, secret),
		"another context beside":        sealed(t, sealKey, nonce, contextOf(group, 4), secret),
		"the nonce of no context":       sealed(t, sealKey, labelled(key, "nonce", nil, 16), c, secret),
		"the nonce of another context":  sealed(t, sealKey, labelled(key, "nonce", contextOf(group, 4), 16), c, secret),
		"the nonce of another label":    sealed(t, sealKey, labelled(key, "wrap", c, 16), c, secret),
		"a nonce of zeros":              sealed(t, sealKey, same(0, 16), c, secret),
		"a nonce of a longer expansion": sealed(t, sealKey, labelled(key, "nonce", c, 32)[:16], c, secret),
		"the key of the context":        sealed(t, labelled(key, "wrap", c, 48), nonce, c, secret),
		"the key of another label":      sealed(t, labelled(key, "key", nil, 48), nonce, c, secret),
		"the key itself":                sealed(t, append(bytes.Clone(key), key[:16]...), nonce, c, secret),
		"the right tag in another place": append(sealed(t, sealKey, nonce, c, secret)[32:],
			sealed(t, sealKey, nonce, c, secret)[:32]...),
		"the secret as it is, with zeros": append(bytes.Clone(secret), same(0, 16)...),
		"zeros":                           same(0, 48),
		"ones":                            same(255, 48),
	}
	for what, b := range tests {
		checkNotUnwrapped(t, what, key, group, 3, b, api.ErrAuth)
	}
}

// P17.2: a secret that is hidden by one key and has the tag of another one is
// wrapped with neither of them.
func TestUnwrapAnotherTagKey(t *testing.T) {
	key, other, group, secret := counting(7, 32), counting(8, 32), []byte("ab"), text(32)
	c := contextOf(group, 3)
	one, two := labelled(key, "wrap", nil, 48), labelled(other, "wrap", nil, 48)
	nonce := labelled(key, "nonce", c, 16)
	b := sealed(t, slices.Concat(one[:16], two[16:]), nonce, c, secret)
	checkNotUnwrapped(t, "the tag of another key", key, group, 3, b, api.ErrAuth)
	checkNotUnwrapped(t, "the nonce of another key", other, group, 3, b, api.ErrAuth)
}

// P17.2: any octets with the right tag are what a secret is wrapped to, and are
// unwrapped to that.
func TestUnwrapAnything(t *testing.T) {
	r := rand.New(rand.NewSource(17))
	for range 500 {
		key, group, epoch, hidden := noise(r, 32), noise(r, r.Intn(17)), r.Intn(maxEpoch+1), noise(r, 32)
		c := contextOf(group, epoch)
		sealKey, nonce := labelled(key, "wrap", nil, 48), labelled(key, "nonce", c, 16)
		b := sealed(t, sealKey, nonce, c, masked(t, sealKey[:16], nonce, hidden))
		if !bytes.Equal(b[:32], hidden) {
			t.Fatal("the mask isn't its own inverse")
		}
		got, x := vault.Unwrap(key, group, epoch, b)
		if x != api.OK {
			t.Fatalf("group %x, epoch %d: %v", group, epoch, x)
		}
		if again, x := vault.Wrap(key, group, epoch, got); x != api.OK || !bytes.Equal(again, b) {
			t.Errorf("group %x, epoch %d: wrapped again: %x, %v, want %x", group, epoch, again, x, b)
		}
	}
}

// P17.2: what is wrong in several ways: ErrArg comes ahead of ErrAuth.
func TestUnwrapFirstError(t *testing.T) {
	key, group, secret := counting(7, 32), []byte("ab"), text(32)
	b := wrappedOf(t, key, group, 3, secret)
	wrong := changed(b, 100)
	checkNotUnwrapped(t, "changed", key, group, 3, wrong, api.ErrAuth)
	checkNotUnwrapped(t, "changed, a long group", key, text(17), 3, wrong, api.ErrArg)
	checkNotUnwrapped(t, "changed, epoch -1", key, group, -1, wrong, api.ErrArg)
	checkNotUnwrapped(t, "changed, an epoch too great", key, group, maxEpoch+1, wrong, api.ErrArg)
	checkNotUnwrapped(t, "changed, a cut key", key[:31], group, 3, wrong, api.ErrArg)
	checkNotUnwrapped(t, "changed, a long key", text(33), group, 3, wrong, api.ErrArg)
	checkNotUnwrapped(t, "changed, cut", key, group, 3, wrong[:47], api.ErrArg)
	checkNotUnwrapped(t, "too short for a tag", key, group, 3, wrong[:15], api.ErrArg)
	checkNotUnwrapped(t, "too short for a tag, a cut key", key[1:], group, 3, wrong[:15], api.ErrArg)
	checkNotUnwrapped(t, "all of it", key[:31], text(17), -1, wrong[:15], api.ErrArg)
	checkNotUnwrapped(t, "the right ones exchanged", wrong, group, 3, key, api.ErrArg)
	checkNotWrapped(t, "all of it", key[:31], text(17), -1, secret[:31])
}

// judged is the error of unwrapping b.
func judged(t *testing.T, key, group []byte, epoch int, b []byte) ([]byte, api.Errno) {
	t.Helper()
	if !hasContext(group, epoch) || len(key) != 32 || len(b) != 48 {
		return nil, api.ErrArg
	}
	c := contextOf(group, epoch)
	sealKey, nonce := labelled(key, "wrap", nil, 48), labelled(key, "nonce", c, 16)
	secret := masked(t, sealKey[:16], nonce, b[:32])
	if !bytes.Equal(b, sealed(t, sealKey, nonce, c, secret)) {
		return nil, api.ErrAuth
	}
	return secret, api.OK
}

// checkJudged unwraps anything.
func checkJudged(t *testing.T, key, group []byte, epoch int, b []byte) {
	t.Helper()
	want, x := judged(t, key, group, epoch, b)
	if x != api.OK {
		checkNotUnwrapped(t, "anything", key, group, epoch, b, x)
		return
	}
	checkUnwrap(t, key, group, epoch, b, want)
}

// checkAny wraps anything, unwraps it again if it can be, and asks for its
// context.
func checkAny(t *testing.T, key, group []byte, epoch int, secret []byte) {
	t.Helper()
	if !hasContext(group, epoch) {
		checkNoContext(t, group, epoch)
		checkNotWrapped(t, "anything", key, group, epoch, secret)
		return
	}
	checkContext(t, group, epoch)
	if len(key) != 32 || len(secret) != 32 {
		checkNotWrapped(t, "anything", key, group, epoch, secret)
		return
	}
	checkBoth(t, key, group, epoch, secret)
}

// anyEpoch is an epoch of any size, or none.
func anyEpoch(r *rand.Rand) int {
	switch r.Intn(4) {
	case 0:
		return int(r.Uint64()) >> r.Intn(64)
	case 1:
		return wrongEpochs()[r.Intn(len(wrongEpochs()))]
	}
	return r.Intn(maxEpoch+1) >> r.Intn(21)
}

// P17.1, P17.2 and P17.3: any keys, groups, epochs and secrets.
func TestAny(t *testing.T) {
	r := rand.New(rand.NewSource(170))
	size := func(usual int) int {
		if r.Intn(4) > 0 {
			return usual
		}
		return r.Intn(2*usual + 2)
	}
	for range 3000 {
		key, group, secret := noise(r, size(32)), noise(r, r.Intn(size(16)+1)), noise(r, size(32))
		epoch := anyEpoch(r)
		checkAny(t, key, group, epoch, secret)
		checkJudged(t, key, group, epoch, noise(r, size(48)))
		b := wrappedOf(t, key, group, epoch, secret)
		checkJudged(t, key, group, epoch, b)
		checkJudged(t, key, group, epoch, changed(b, r.Intn(8*len(b))))
		checkJudged(t, key, group, anyEpoch(r), b)
	}
}

// bucketOf is a bucket by the chapter's Terms and the library's numbers of any
// size, whose Div rounds down for positive divisors.
func bucketOf(time, period int) int {
	if time < 0 {
		return 0
	}
	if period < 1 {
		return time
	}
	return int(new(big.Int).Div(big.NewInt(int64(time)), big.NewInt(int64(period))).Int64())
}

// checkBucket asks for a bucket.
func checkBucket(t *testing.T, time, period int) {
	t.Helper()
	if got, want := vault.Bucket(time, period), bucketOf(time, period); got != want {
		t.Errorf("time %d, period %d: got %d, want %d", time, period, got, want)
	}
}

// P17.3: the chapter's example, and values reckoned by hand.
func TestKnownBuckets(t *testing.T) {
	tests := []struct{ time, period, want int }{
		{25, 10, 2}, {29, 10, 2}, {20, 10, 2}, {19, 10, 1}, {30, 10, 3}, {9, 10, 0}, {10, 10, 1}, {0, 10, 0},
		{0, 0, 0}, {0, 1, 0}, {0, -1, 0}, {0, math.MaxInt, 0}, {0, math.MinInt, 0},
		{7, 0, 7}, {7, -1, 7}, {7, -10, 7}, {7, math.MinInt, 7}, {7, 1, 7}, {7, 2, 3}, {7, 3, 2}, {7, 4, 1}, {7, 7, 1}, {7, 8, 0},
		{-1, 10, 0}, {-5, 10, 0}, {-10, 10, 0}, {-11, 10, 0}, {-1, 1, 0}, {-7, 0, 0}, {-7, -1, 0}, {-7, -7, 0}, {-7, math.MinInt, 0},
		{math.MinInt, 10, 0}, {math.MinInt, 1, 0}, {math.MinInt, 0, 0}, {math.MinInt, -1, 0}, {math.MinInt, math.MinInt, 0},
		{math.MinInt, math.MaxInt, 0}, {-math.MaxInt, 2, 0},
		{math.MaxInt, 1, math.MaxInt}, {math.MaxInt, 0, math.MaxInt}, {math.MaxInt, -1, math.MaxInt},
		{math.MaxInt, math.MinInt, math.MaxInt}, {math.MaxInt, 2, 4611686018427387903}, {math.MaxInt, 10, 922337203685477580},
		{math.MaxInt, math.MaxInt, 1}, {math.MaxInt - 1, math.MaxInt, 0}, {math.MaxInt, math.MaxInt - 1, 1},
		{math.MaxInt, 1 << 62, 1}, {1 << 62, 1 << 62, 1}, {1<<62 - 1, 1 << 62, 0}, {1 << 40, 3, 366503875925},
	}
	for _, x := range tests {
		if got := vault.Bucket(x.time, x.period); got != x.want {
			t.Errorf("time %d, period %d: got %d, want %d", x.time, x.period, got, x.want)
		}
	}
}

// times are ints of each size, also as periods.
func times() []int {
	all := []int{math.MinInt, math.MinInt + 1, math.MaxInt - 1, math.MaxInt, -10, -5, 0, 10, 25, 99, 100, 101, 1000000007}
	for bit := range 63 {
		for _, near := range []int{-1, 0, 1} {
			all = append(all, 1<<bit+near, -1<<bit+near)
		}
	}
	return all
}

// P17.3: times and periods of each size, by the chapter's Terms.
func TestBuckets(t *testing.T) {
	for _, time := range times() {
		for _, period := range times() {
			checkBucket(t, time, period)
		}
		for period := range 9 {
			checkBucket(t, time, period)
		}
		for near := -2; near <= 2; near++ {
			checkBucket(t, time, time+near)
		}
	}
	for time := -60; time < 300; time++ {
		for period := -20; period < 310; period++ {
			checkBucket(t, time, period)
		}
	}
}

// P17.3: a bucket's times are as many as the period has, one after the other.
func TestBucketsFollowEachOther(t *testing.T) {
	for _, period := range []int{1, 2, 3, 7, 10, 16, 100} {
		for bucket := range 50 {
			first, last := bucket*period, bucket*period+period-1
			if a, b := vault.Bucket(first, period), vault.Bucket(last, period); a != bucket || b != bucket {
				t.Errorf("period %d, bucket %d: its first time has %d, its last one %d", period, bucket, a, b)
			}
			if next := vault.Bucket(last+1, period); next != bucket+1 {
				t.Errorf("period %d, bucket %d: the next one is %d", period, bucket, next)
			}
		}
	}
}

// P17.3: any times and periods.
func TestAnyBuckets(t *testing.T) {
	r := rand.New(rand.NewSource(171))
	for range 100000 {
		checkBucket(t, int(r.Uint64())>>r.Intn(64), int(r.Uint64())>>r.Intn(64))
	}
}

// call is one of the functions with its arguments and what it returns.
type call struct {
	name string
	run  func(key, group []byte, epoch int, text []byte) ([]byte, api.Errno)
	args [3][]byte
	at   int
	want []byte
	err  api.Errno
}

// context is Context as a call that has a key and a text, which it leaves.
func context(_, group []byte, epoch int, _ []byte) ([]byte, api.Errno) {
	return vault.Context(group, epoch), api.OK
}

// calls are some of each function, with and without an error.
func calls(t *testing.T) []call {
	t.Helper()
	key, secret := counting(7, 32), text(32)
	var all []call
	for _, group := range [][]byte{nil, {0}, []byte("ab"), text(16)} {
		for _, epoch := range []int{0, 258, maxEpoch} {
			b := wrappedOf(t, key, group, epoch, secret)
			long := append(bytes.Clone(group), text(17)...)
			all = append(all,
				call{"Context", context, [3][]byte{key, group, secret}, epoch, contextOf(group, epoch), api.OK},
				call{"Context, a long group", context, [3][]byte{key, long, secret}, epoch, nil, api.OK},
				call{"Context, a wrong epoch", context, [3][]byte{key, group, secret}, ^epoch, nil, api.OK},
				call{"Wrap", vault.Wrap, [3][]byte{key, group, secret}, epoch, b, api.OK},
				call{"Wrap, another key", vault.Wrap, [3][]byte{secret, group, key}, epoch, wrappedOf(t, secret, group, epoch, key), api.OK},
				call{"Wrap, a cut key", vault.Wrap, [3][]byte{key[:31], group, secret}, epoch, nil, api.ErrArg},
				call{"Wrap, a cut secret", vault.Wrap, [3][]byte{key, group, secret[:31]}, epoch, nil, api.ErrArg},
				call{"Wrap, a long group", vault.Wrap, [3][]byte{key, long, secret}, epoch, nil, api.ErrArg},
				call{"Wrap, a wrong epoch", vault.Wrap, [3][]byte{key, group, secret}, ^epoch, nil, api.ErrArg},
				call{"Unwrap", vault.Unwrap, [3][]byte{key, group, b}, epoch, secret, api.OK},
				call{"Unwrap, a cut key", vault.Unwrap, [3][]byte{key[:31], group, b}, epoch, nil, api.ErrArg},
				call{"Unwrap, cut", vault.Unwrap, [3][]byte{key, group, b[:47]}, epoch, nil, api.ErrArg},
				call{"Unwrap, a long group", vault.Unwrap, [3][]byte{key, long, b}, epoch, nil, api.ErrArg},
				call{"Unwrap, a wrong epoch", vault.Unwrap, [3][]byte{key, group, b}, ^epoch, nil, api.ErrArg},
				call{"Unwrap, another epoch", vault.Unwrap, [3][]byte{key, group, b}, epoch ^ 1, nil, judgedOf(group, epoch^1)},
				call{"Unwrap, another key", vault.Unwrap, [3][]byte{secret, group, b}, epoch, nil, api.ErrAuth},
				call{"Unwrap, changed", vault.Unwrap, [3][]byte{key, group, changed(b, 77)}, epoch, nil, api.ErrAuth},
			)
		}
	}
	return all
}

// judgedOf is the error of unwrapping with a group and an epoch what was wrapped
// with others.
func judgedOf(group []byte, epoch int) api.Errno {
	if !hasContext(group, epoch) {
		return api.ErrArg
	}
	return api.ErrAuth
}

// roomyArgs are the arguments of c, each in memory of its own with something
// behind it.
func (c call) roomyArgs() [3][]byte {
	var out [3][]byte
	for i, b := range c.args {
		out[i] = roomy(b)
	}
	return out
}

// check runs c with arguments that are equal to its own.
func (c call) check(t *testing.T, args [3][]byte) []byte {
	t.Helper()
	got, x := c.run(args[0], args[1], c.at, args[2])
	if x != c.err || !bytes.Equal(got, c.want) {
		t.Errorf("%s, group of %d octets, epoch %d: got %x, %v, want %x, %v", c.name, len(args[1]), c.at, got, x, c.want, c.err)
	}
	return got
}

// checkWhole holds arguments, with what is behind them, against what they were.
func (c call) checkWhole(t *testing.T, what string, args, before [3][]byte) {
	t.Helper()
	for i, b := range args {
		if !bytes.Equal(whole(b), whole(before[i])) {
			t.Errorf("%s, group of %d octets, epoch %d: %s changed argument %d", c.name, len(args[1]), c.at, what, i)
		}
	}
}

// P17.3: what lies in the spare capacity of an argument is no part of it, and
// the arguments are as they were, with their spare capacity.
func TestArgumentsAreNotChanged(t *testing.T) {
	for _, c := range calls(t) {
		args, before := c.roomyArgs(), c.roomyArgs()
		c.check(t, args)
		c.check(t, args)
		c.checkWhole(t, "the call", args, before)
	}
}

// P17.3: results share no memory with arguments or with each other, and nothing
// of an argument is kept.
func TestResultsAreNewMemory(t *testing.T) {
	for _, c := range calls(t) {
		args, before := c.roomyArgs(), c.roomyArgs()
		first, second := c.check(t, args), c.check(t, args)
		spoil(first)
		c.checkWhole(t, "a changed result", args, before)
		if !bytes.Equal(second, c.want) {
			t.Errorf("%s: a changed result changed another", c.name)
		}
		third := c.check(t, args)
		for _, b := range args {
			spoil(b)
		}
		if !bytes.Equal(second, c.want) || !bytes.Equal(third, c.want) {
			t.Errorf("%s: a changed argument changed a result", c.name)
		}
		c.check(t, c.args)
	}
}

// P17.3: one slice may be several arguments, or they may lie beside each other.
func TestSharedArguments(t *testing.T) {
	all := text(48)
	checkBoth(t, all[:32], all[:16], 3, all[:32])
	checkBoth(t, all[8:40], all[8:8], 3, all[16:])
	checkBoth(t, all[16:], all[:16], 3, all[1:33])
	checkNotUnwrapped(t, "one slice", all[:32], all[:16], 3, all, api.ErrAuth)
	b, x := vault.Wrap(all[:32], all[:16], 3, all[:32])
	if x != api.OK {
		t.Fatal(x)
	}
	both := append(bytes.Clone(all), b...)
	checkUnwrap(t, both[:32], both[:16], 3, both[48:], all[:32])
	if !bytes.Equal(all, text(48)) || !bytes.Equal(both, append(text(48), b...)) {
		t.Error("an argument was changed")
	}
}

// P17.3: a result may be the argument of the next call.
func TestResultsAsArguments(t *testing.T) {
	key, group, secret := counting(7, 32), []byte("ab"), text(32)
	for epoch := range 50 {
		b, x := vault.Wrap(key, group, epoch, secret)
		got, y := vault.Unwrap(key, group, epoch, b)
		if x != api.OK || y != api.OK || !bytes.Equal(got, secret) {
			t.Fatalf("epoch %d: %v, %x, %v", epoch, x, got, y)
		}
		checkBoth(t, got, group, epoch, b[:32])
		checkBoth(t, b[16:], got[:16], epoch, got)
		checkBoth(t, key, vault.Context(group, epoch), epoch, got)
		key, secret = got, b[:32]
	}
}

// P17.3: a result depends on its own arguments alone, not on calls before it.
func TestCallsAreApart(t *testing.T) {
	all := calls(t)
	for i, c := range all {
		other := all[(i*7+3)%len(all)]
		other.check(t, other.args)
		c.check(t, c.args)
		vault.Bucket(i, len(all))
		c.check(t, c.args)
	}
}

// P17.1 and P17.3: any keys, groups, epochs and secrets.
func FuzzWrap(f *testing.F) {
	f.Add(text(32), []byte("ab"), 258, text(32))
	f.Add(text(31), text(16), maxEpoch, text(32))
	f.Add(text(32), text(17), -1, text(33))
	f.Add(text(32), []byte{}, 0, text(32))
	f.Fuzz(func(t *testing.T, key, group []byte, epoch int, secret []byte) {
		checkAny(t, key, group, epoch, secret)
	})
}

// P17.2: any keys, groups, epochs and octets, as they are and with the tag that
// they must have.
func FuzzUnwrap(f *testing.F) {
	f.Add(text(32), []byte("ab"), 258, text(48))
	f.Add(text(32), text(16), maxEpoch+1, text(48))
	f.Add(text(33), []byte{}, 0, text(47))
	f.Fuzz(func(t *testing.T, key, group []byte, epoch int, b []byte) {
		checkJudged(t, key, group, epoch, b)
		checkJudged(t, key, group, epoch, wrappedOf(t, key, group, epoch, b[:min(len(b), 32)]))
	})
}

// P17.3: any times and periods.
func FuzzBucket(f *testing.F) {
	f.Add(25, 10)
	f.Add(math.MaxInt, 2)
	f.Add(-5, 0)
	f.Fuzz(checkBucket)
}
