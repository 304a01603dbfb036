package digest_test

import (
	"encoding/binary"
	"encoding/hex"
	"math"
	"math/big"
	"math/rand"
	"slices"
	"strconv"
	"strings"
	"testing"

	"hachure/digest"
)

// expected computes a digest as the chapter words it, with numbers that have no bounds.
func expected(s string) string {
	return string(append(remainders(s, 31, 48271, 2147483647), remainders(s, 37, 40692, 2147483629)...))
}

func remainders(s string, start, factor, prime int64) []byte {
	x := big.NewInt(start)
	for _, c := range []byte(s) {
		x.Mul(x, big.NewInt(factor))
		x.Add(x, big.NewInt(int64(c)+1))
		x.Mod(x, big.NewInt(prime))
	}
	return x.FillBytes(make([]byte, 4))
}

func length(s string) string {
	return string(binary.BigEndian.AppendUint32(nil, uint32(len(s))))
}

// tree computes all levels of the tree of l as the chapter words them.
func tree(l []string) [][]string {
	n := 1
	for n < len(l) {
		n *= 2
	}
	level := make([]string, n)
	for i := range level {
		level[i] = expected("\x05")
	}
	for i, s := range l {
		level[i] = expected("\x03" + s)
	}
	all := [][]string{level}
	for len(level) > 1 {
		var next []string
		for i := 0; i < len(level); i += 2 {
			next = append(next, expected("\x04"+level[i]+level[i+1]))
		}
		level = next
		all = append(all, level)
	}
	return all
}

func someStrings() []string {
	l := []string{"", "\x00", "\xff", "a", "b", "ab", "ba", "a\x00", "\x00a", "\x01", "\x02", "\x03", "\x04", "\x05", "\x01\x00\x00\x00\x00", "\u00e9\u20ac", "ford", "\xff\xfe\xfd"}
	for _, n := range []int{7, 8, 9, 255, 256, 257} {
		l = append(l, strings.Repeat("x", n))
	}
	return append(l, strings.Repeat("\xff", 1234), strings.Repeat("\x00", 1234), strings.Repeat("x", 65535), strings.Repeat("x", 65536))
}

// shortStrings leaves out the longest ones of someStrings.
func shortStrings() []string {
	l := someStrings()
	return l[:len(l)-4]
}

// distinct returns n strings, all of them different.
func distinct(n int) []string {
	var l []string
	for i := range n {
		l = append(l, strings.Repeat("s", i%5)+strconv.Itoa(i))
	}
	return l
}

// someLengths holds every length from 0 to 35, and those around greater powers of two.
func someLengths() []int {
	var l []int
	for n := range 36 {
		l = append(l, n)
	}
	return append(l, 63, 64, 65, 100, 127, 128, 129, 255, 256, 257)
}

func unhex(t *testing.T, s string) string {
	t.Helper()
	b, err := hex.DecodeString(strings.ReplaceAll(s, " ", ""))
	if err != nil {
		t.Fatal(err)
	}
	return string(b)
}

func same(t *testing.T, what, got, want string) {
	t.Helper()
	if got != want {
		t.Errorf("%s: % x, want % x", what, got, want)
	}
}

// changed returns s with another byte at i.
func changed(s string, i int, by byte) string {
	b := []byte(s)
	b[i] ^= by
	return string(b)
}

func TestExamplesOfDigests(t *testing.T) { // P3.1, P3.2, P3.3
	same(t, "Of nothing", digest.Of(""), unhex(t, "00 00 00 1f 00 00 00 25"))
	same(t, "Of the byte 0", digest.Of("\x00"), unhex(t, "00 16 d5 52 00 16 f9 45"))
	same(t, "Chain", digest.Chain("", ""), digest.Of(unhex(t, "01 00 00 00 00")))
	same(t, "Mark", digest.Mark("k", "m"), digest.Of(unhex(t, "02 00 00 00 01 6b 6d 6b")))
	if !digest.Check("k", "m", digest.Of(unhex(t, "02 00 00 00 01 6b 6d 6b"))) {
		t.Error("Check refuses the mark of k")
	}
	if digest.Check("", "m", digest.Mark("", "m")) {
		t.Error("Check accepts an empty key")
	}
}

func TestExamplesOfTrees(t *testing.T) { // P3.4, P3.5
	a, b := digest.Of("\x03a"), digest.Of("\x03b")
	same(t, "Root of nothing", digest.Root(nil), digest.Of("\x05"))
	same(t, "Root of a", digest.Root([]string{"a"}), a)
	same(t, "Root of a, b", digest.Root([]string{"a", "b"}), digest.Of("\x04"+a+b))
	proof, ok := digest.Prove([]string{"a", "b", "c"}, 2)
	if want := []string{digest.Of("\x05"), digest.Of("\x04" + a + b)}; !ok || !slices.Equal(proof, want) {
		t.Errorf("Prove: % x, %v", proof, ok)
	}
	root := digest.Root([]string{"a"})
	if !digest.Verify(root, "a", 0, nil) || digest.Verify(root, "a", 1, nil) {
		t.Error("Verify without a proof")
	}
}

func TestOf(t *testing.T) { // P3.1
	for _, s := range someStrings() {
		same(t, "Of "+strconv.Quote(s), digest.Of(s), expected(s))
	}
	random := rand.New(rand.NewSource(3))
	for range 2000 {
		b := make([]byte, random.Intn(60))
		random.Read(b)
		same(t, "Of "+strconv.Quote(string(b)), digest.Of(string(b)), expected(string(b)))
	}
}

func TestOfEveryByte(t *testing.T) { // P3.1
	for c := range 256 {
		for _, s := range []string{string([]byte{byte(c)}), string([]byte{byte(c), 0xff}), string([]byte{0xff, 0xff, 0xff, byte(c)})} {
			same(t, "Of "+strconv.Quote(s), digest.Of(s), expected(s))
		}
	}
}

func TestChain(t *testing.T) { // P3.2
	for _, before := range someStrings() {
		for _, s := range shortStrings() {
			same(t, "Chain", digest.Chain(before, s), digest.Of("\x01"+length(before)+before+s))
		}
	}
}

func TestChainSeparates(t *testing.T) { // P3.2
	if digest.Chain("ab", "c") == digest.Chain("a", "bc") || digest.Chain("a", "") == digest.Chain("", "a") {
		t.Error("what was before isn't separated from what follows")
	}
}

// TestLongStrings needs all four bytes of a length.
func TestLongStrings(t *testing.T) { // P3.2, P3.3
	long := strings.Repeat("x", 1<<24+0x010203)
	same(t, "Chain", digest.Chain(long, "s"), digest.Of("\x01\x01\x01\x02\x03"+long+"s"))
	same(t, "Mark", digest.Mark(long, "m"), digest.Of("\x02\x01\x01\x02\x03"+long+"m"+long))
}

func TestMark(t *testing.T) { // P3.3
	for _, key := range someStrings() {
		for _, msg := range shortStrings() {
			same(t, "Mark", digest.Mark(key, msg), digest.Of("\x02"+length(key)+key+msg+key))
		}
	}
}

func TestCheck(t *testing.T) { // P3.3
	for _, key := range shortStrings() {
		for _, msg := range shortStrings() {
			mark := digest.Mark(key, msg)
			if got := digest.Check(key, msg, mark); got != (key != "") {
				t.Errorf("Check of the mark of %q by %q: %v", msg, key, got)
			}
			refuseOtherMarks(t, key, msg, mark)
		}
	}
}

func refuseOtherMarks(t *testing.T, key, msg, mark string) {
	t.Helper()
	others := []string{"", mark[:7], mark[1:], mark + "\x00", mark + mark, "\x00" + mark, digest.Of(msg), digest.Chain(key, msg), digest.Mark(key, msg+"x"), digest.Mark(key+"x", msg)}
	for i := range len(mark) {
		others = append(others, changed(mark, i, 1), changed(mark, i, 0x80), changed(mark, i, 0xff))
	}
	for _, m := range others {
		if digest.Check(key, msg, m) {
			t.Errorf("Check accepts % x for %q by %q", m, msg, key)
		}
	}
}

func TestCheckOfOthers(t *testing.T) { // P3.3
	mark := digest.Mark("key", "message")
	for _, x := range [][2]string{{"", "message"}, {"kez", "message"}, {"key", "messagf"}, {"key", ""}, {"ke", "message"}, {"message", "key"}} {
		if digest.Check(x[0], x[1], mark) {
			t.Errorf("Check accepts the mark for %q by %q", x[1], x[0])
		}
	}
}

func TestRoot(t *testing.T) { // P3.4
	for _, n := range someLengths() {
		all := tree(distinct(n))
		same(t, "Root of "+strconv.Itoa(n), digest.Root(distinct(n)), all[len(all)-1][0])
	}
	same(t, "Root of an empty list", digest.Root([]string{}), digest.Root(nil)) // R1
}

func TestRootOfEqualOrStrangeStrings(t *testing.T) { // P3.4
	for _, l := range [][]string{{""}, {"", ""}, {"", "", ""}, {"a", "a", "a", "a"}, {"\x05", "", digest.Of("\x05")}, shortStrings()} {
		all := tree(l)
		same(t, "Root", digest.Root(l), all[len(all)-1][0])
	}
}

func TestProve(t *testing.T) { // P3.4
	for _, n := range someLengths() {
		l := distinct(n)
		all := tree(l)
		for i := range l {
			var want []string
			for k, level := range all[:len(all)-1] {
				want = append(want, level[i>>k^1])
			}
			if proof, ok := digest.Prove(l, i); !ok || !slices.Equal(proof, want) {
				t.Errorf("Prove of %d with %d: % x, %v, want % x", n, i, proof, ok, want)
			}
		}
	}
}

func TestProveOfNoIndex(t *testing.T) { // P3.4
	for _, n := range someLengths() {
		for _, i := range []int{-1, -2, n, n + 1, 2*n + 1, 1 << 40, math.MinInt, math.MaxInt} {
			if proof, ok := digest.Prove(distinct(n), i); ok || len(proof) != 0 {
				t.Errorf("Prove of %d with %d: % x, %v", n, i, proof, ok)
			}
		}
	}
}

func TestVerifyAcceptsProofs(t *testing.T) { // P3.5, P3.7
	for _, n := range someLengths() {
		l := distinct(n)
		root := digest.Root(l)
		for i, s := range l {
			proof, _ := digest.Prove(l, i)
			if !digest.Verify(root, s, i, proof) {
				t.Errorf("Verify of %d with %d", n, i)
			}
		}
	}
}

func TestVerifyRefusesOtherIndices(t *testing.T) { // P3.5, P3.7
	for _, n := range someLengths()[:36] {
		l := distinct(n)
		root := digest.Root(l)
		for i, s := range l {
			proof, _ := digest.Prove(l, i)
			others := []int{-1, -i, i - 1<<len(proof), i + 1<<len(proof), i | 1<<40, i | 1<<62, i | math.MinInt, math.MaxInt}
			for j := range 2 * len(tree(l)[0]) {
				others = append(others, j)
			}
			for _, j := range others {
				if j != i && digest.Verify(root, s, j, proof) {
					t.Errorf("Verify of %d accepts %d for %d", n, j, i)
				}
			}
		}
	}
}

func TestVerifyRefusesOtherStrings(t *testing.T) { // P3.5, P3.7
	for _, n := range someLengths()[:20] {
		l := distinct(n)
		root := digest.Root(l)
		for i, s := range l {
			proof, _ := digest.Prove(l, i)
			for _, other := range append(slices.Concat(l, shortStrings()), s+"x", "\x03"+s, digest.Of("\x03"+s)) {
				if other != s && digest.Verify(root, other, i, proof) {
					t.Errorf("Verify of %d with %d accepts %q", n, i, other)
				}
			}
		}
	}
}

func TestVerifyRefusesOtherRoots(t *testing.T) { // P3.5
	l := distinct(6)
	root := digest.Root(l)
	proof, _ := digest.Prove(l, 3)
	others := []string{"", root[:7], root[1:], root + "\x00", root + root, digest.Root(l[:5]), digest.Root(nil)}
	for i := range len(root) {
		others = append(others, changed(root, i, 1), changed(root, i, 0x80))
	}
	for _, r := range others {
		if digest.Verify(r, l[3], 3, proof) {
			t.Errorf("Verify accepts the root % x", r)
		}
	}
}

func TestVerifyRefusesOtherProofs(t *testing.T) { // P3.5
	for _, n := range []int{2, 3, 8, 9} {
		l := distinct(n)
		root := digest.Root(l)
		for i, s := range l {
			proof, _ := digest.Prove(l, i)
			for _, other := range otherProofs(proof) {
				if digest.Verify(root, s, i, other) {
					t.Errorf("Verify of %d with %d accepts % x for % x", n, i, other, proof)
				}
			}
		}
	}
}

// otherProofs returns proofs in which one byte differs, one element has another length, is missing or there twice.
func otherProofs(proof []string) [][]string {
	all := [][]string{append(slices.Clone(proof), digest.Of("\x05")), append(slices.Clone(proof), "")}
	for k, s := range proof {
		elements := []string{"", s[:7], s[1:], s + "\x00", "\x00" + s, s + s}
		for b := range len(s) {
			elements = append(elements, changed(s, b, 1), changed(s, b, 0x80), changed(s, b, 0xff))
		}
		for _, e := range elements {
			all = append(all, slices.Concat(proof[:k], []string{e}, proof[k+1:]))
		}
		all = append(all, slices.Concat(proof[:k], proof[k+1:]), slices.Insert(slices.Clone(proof), k, s))
	}
	return all
}

// TestVerifyRefusesSplitElements looks for an implementation that only joins the elements: these give the same bytes in all.
func TestVerifyRefusesSplitElements(t *testing.T) { // P3.5
	l := distinct(4)
	proof, _ := digest.Prove(l, 0)
	joined := proof[0] + proof[1]
	for k := range len(joined) + 1 {
		if got := digest.Verify(digest.Root(l), l[0], 0, []string{joined[:k], joined[k:]}); got != (k == 8) {
			t.Errorf("Verify of elements with %d and %d bytes: %v", k, len(joined)-k, got)
		}
	}
}

// rootOf climbs from a leaf as P3.5 says, whatever the number of elements.
func rootOf(leaf string, i int, proof []string) string {
	d := expected("\x03" + leaf)
	for _, s := range proof {
		if i%2 == 0 {
			d = expected("\x04" + d + s)
		} else {
			d = expected("\x04" + s + d)
		}
		i /= 2
	}
	return d
}

func longProof(n int) []string {
	var proof []string
	for k := range n {
		proof = append(proof, expected("neighbour "+strconv.Itoa(k)))
	}
	return proof
}

func TestVerifyOfLongProofs(t *testing.T) { // P3.5
	for n := range 64 {
		proof := longProof(n)
		last := 1<<min(n, 62) - 1
		for _, i := range []int{0, last, last / 2, last / 3, last &^ 1} {
			root := rootOf("leaf", i, proof)
			if got := digest.Verify(root, "leaf", i, proof); got != (n <= 40) {
				t.Errorf("Verify of %d elements with %d: %v", n, i, got)
			}
			if digest.Verify(root, "leaf", i+last+1, proof) || digest.Verify(root, "leaf", i-last-1, proof) {
				t.Errorf("Verify of %d elements accepts an index that is too great or negative", n)
			}
		}
	}
}

func TestVerifyOfFreeElements(t *testing.T) { // P3.5: elements may be any 8 bytes, also those that are no digest
	for _, e := range []string{"neighbor", "\xff\xff\xff\xff\xff\xff\xff\xff", "\x00\x00\x00\x00\x00\x00\x00\x00"} {
		for i := range 4 {
			proof := []string{e, e}
			if !digest.Verify(rootOf("leaf", i, proof), "leaf", i, proof) {
				t.Errorf("Verify refuses the element %q at %d", e, i)
			}
		}
	}
}

// TestVerifyOfEqualStrings: what proves two strings at both of their indices is accepted for both.
func TestVerifyOfEqualStrings(t *testing.T) { // P3.5, P3.7
	l := []string{"a", "a", "b"}
	for i := range 2 {
		proof, ok := digest.Prove(l, i)
		if !ok || !digest.Verify(digest.Root(l), "a", 0, proof) || !digest.Verify(digest.Root(l), "a", 1, proof) {
			t.Errorf("the proof of %d", i)
		}
	}
}

func TestOneByteDiffers(t *testing.T) { // P3.6
	random := rand.New(rand.NewSource(6))
	for _, n := range []int{1, 2, 3, 8, 31, 100} {
		b := make([]byte, n)
		random.Read(b)
		for i := range n {
			seen := map[string]bool{}
			for c := range 256 {
				b[i] = byte(c)
				seen[digest.Of(string(b))] = true
			}
			if len(seen) != 256 {
				t.Errorf("%d digests of 256 strings that differ in byte %d of %d", len(seen), i, n)
			}
		}
	}
}

func TestLongerList(t *testing.T) { // P3.8
	for n := 1; n < 70; n++ {
		short, long := distinct(n), distinct(n+1)
		if len(tree(short)) != len(tree(long)) {
			continue
		}
		for i := range short {
			p, _ := digest.Prove(short, i)
			q, _ := digest.Prove(long, i)
			if d := differences(p, q); len(p) != len(q) || d > 1 {
				t.Errorf("the proofs of %d in %d and in one more differ in %d elements", i, n, d)
			}
		}
	}
}

func differences(p, q []string) int {
	n := 0
	for i := range min(len(p), len(q)) {
		if p[i] != q[i] {
			n++
		}
	}
	return n
}

func TestDigestsHaveEightBytes(t *testing.T) { // P3.1 to P3.4
	for _, s := range shortStrings() {
		for _, d := range []string{digest.Of(s), digest.Chain(s, s), digest.Mark(s, s), digest.Root([]string{s})} {
			if len(d) != 8 {
				t.Errorf("%d bytes for %q", len(d), s)
			}
		}
	}
}

func TestArgumentsStay(t *testing.T) { // R3
	l := distinct(5)
	before := slices.Clone(l)
	root := digest.Root(l)
	proof, _ := digest.Prove(l, 1)
	kept := slices.Clone(proof)
	digest.Verify(root, l[1], 1, proof)
	if !slices.Equal(l, before) || !slices.Equal(proof, kept) {
		t.Error("an argument is changed")
	}
	for i := range proof {
		proof[i] = ""
	}
	if again, _ := digest.Prove(l, 1); !slices.Equal(again, kept) || !slices.Equal(l, before) {
		t.Error("a result shares memory")
	}
}

func TestLargeList(t *testing.T) { // P1, P3.7
	l := distinct(1<<16 + 1)
	root := digest.Root(l)
	for _, i := range []int{0, 1, 1<<16 - 1, 1 << 16} {
		proof, ok := digest.Prove(l, i)
		if !ok || len(proof) != 17 || !digest.Verify(root, l[i], i, proof) {
			t.Errorf("index %d: %d elements, %v", i, len(proof), ok)
		}
	}
}
