package gazette_test

import (
	"math/rand"
	"regexp"
	"strings"
	"testing"

	"hachure/gazette"
)

var (
	// The first and the last byte are from 32 to 126, and neither a blank nor a quote.
	nameForm  = regexp.MustCompile(`\A[!#-~]([ !#-~]{0,22}[!#-~])?\z`)
	classForm = regexp.MustCompile(`\A[a-z]{1,12}\z`)
)

// tricky has letters, the bytes around them, the ends of what names can have, and what is no text.
const tricky = "aAbBzZ@[`{ \"!~\x7f\x00\x1f\xff\xc3\x89"

// everyString visits all strings of up to n bytes of alphabet.
func everyString(alphabet string, n int, visit func(s string)) {
	extend("", alphabet, n, visit)
}

// extend visits s, and all longer strings of up to n bytes that begin with it.
func extend(s, alphabet string, n int, visit func(s string)) {
	visit(s)
	if len(s) == n {
		return
	}
	for i := range len(alphabet) {
		extend(s+alphabet[i:i+1], alphabet, n, visit)
	}
}

// stringsOf returns all strings of up to n bytes of alphabet.
func stringsOf(alphabet string, n int) []string {
	var l []string
	everyString(alphabet, n, func(s string) { l = append(l, s) })
	return l
}

// allBytes returns the bytes from 0 to 255.
func allBytes() string {
	b := make([]byte, 256)
	for i := range b {
		b[i] = byte(i)
	}
	return string(b)
}

// randomString draws a string of up to n bytes of alphabet.
func randomString(r *rand.Rand, alphabet string, n int) string {
	b := make([]byte, r.Intn(n+1))
	for i := range b {
		b[i] = alphabet[r.Intn(len(alphabet))]
	}
	return string(b)
}

// swapped returns s with other letters, where small ones become capital ones or the other way round.
func swapped(r *rand.Rand, s string) string {
	b := []byte(s)
	for i, c := range b {
		if letter := c | 32; letter >= 'a' && letter <= 'z' && r.Intn(2) == 0 {
			b[i] ^= 32
		}
	}
	return string(b)
}

func TestStringsOf(t *testing.T) {
	if got := strings.Join(stringsOf("xy", 2), ","); got != ",x,xx,xy,y,yx,yy" {
		t.Errorf("all strings: %q", got)
	}
}

func checkRight(t *testing.T, s string, want bool) {
	t.Helper()
	if got := gazette.Right(s); got != want {
		t.Fatalf("Right(%q) = %v", s, got)
	}
}

func checkClass(t *testing.T, s string, want bool) {
	t.Helper()
	if got := gazette.Class(s); got != want {
		t.Fatalf("Class(%q) = %v", s, got)
	}
}

func TestRightExamples(t *testing.T) { // P9.1
	for _, s := range []string{"Oak Gate", "x", "!", "~", "a  b", "' '", "7 Mill Lane, No. 24", "\\", strings.Repeat("x", 24), "x" + strings.Repeat(" ", 22) + "x"} {
		checkRight(t, s, true)
	}
	for _, s := range []string{"", " x", "x ", " ", "  ", `a"b`, `"`, `"x`, `x"`, "\x7f", "a\x1fb", "a\tb", "a\n", "\x00", "Mühle", "\xff", "a\x80b", strings.Repeat("x", 25), "x" + strings.Repeat(" ", 23) + "x"} {
		checkRight(t, s, false)
	}
}

func TestClassExamples(t *testing.T) { // P9.1
	for _, s := range []string{"mill", "a", "z", "abcdefghijkl", "mnopqrstuvwx", "yz", strings.Repeat("z", 12)} {
		checkClass(t, s, true)
	}
	for _, s := range []string{"", "Mill", "miLl", "milL", "mill ", " mill", "mill7", "oak gate", "a-b", "`", "{", "é", "\xff", "\x00", "a\n", strings.Repeat("z", 13)} {
		checkClass(t, s, false)
	}
}

func TestRightAndClassOfAllShortStrings(t *testing.T) { // P9.1
	everyString(allBytes(), 2, func(s string) {
		checkRight(t, s, nameForm.MatchString(s))
		checkClass(t, s, classForm.MatchString(s))
	})
	everyString(tricky, 4, func(s string) {
		checkRight(t, s, nameForm.MatchString(s))
		checkClass(t, s, classForm.MatchString(s))
	})
}

func TestRightAndClassOfAllLengths(t *testing.T) { // P1, P9.1
	for _, s := range []string{"x", "X", " ", `"`, "~", "\xff"} {
		for n := range 300 {
			long := strings.Repeat(s, n)
			checkRight(t, long, nameForm.MatchString(long))
			checkClass(t, long, classForm.MatchString(long))
		}
		checkRight(t, strings.Repeat(s, 1<<22), false)
		checkClass(t, strings.Repeat(s, 1<<22), false)
	}
}

func TestOneByteMakesANameOrAClassWrong(t *testing.T) { // P9.1
	right := map[bool]int{}
	for n := 1; n <= 25; n++ {
		for i := range n {
			for c := range 256 {
				b := []byte(strings.Repeat("m", n))
				b[i] = byte(c)
				s := string(b)
				checkRight(t, s, nameForm.MatchString(s))
				checkClass(t, s, classForm.MatchString(s))
				right[gazette.Right(s)]++
			}
		}
	}
	if right[false] < 10000 || right[true] < 10000 {
		t.Errorf("right or not: %v", right)
	}
}

// wantFold follows P9.2.
func wantFold(s string) string {
	var b strings.Builder
	for i := range len(s) {
		if n := strings.IndexByte("ABCDEFGHIJKLMNOPQRSTUVWXYZ", s[i]); n >= 0 {
			b.WriteByte("abcdefghijklmnopqrstuvwxyz"[n])
		} else {
			b.WriteByte(s[i])
		}
	}
	return b.String()
}

func checkFold(t *testing.T, s, want string) {
	t.Helper()
	got := gazette.Fold(s)
	if got != want {
		t.Fatalf("Fold(%q) = %q, want %q", s, got, want)
	}
	if again := gazette.Fold(got); again != want {
		t.Fatalf("Fold(%q) = %q", got, again)
	}
}

func TestFoldExamples(t *testing.T) { // P9.2, P9.6
	checkFold(t, "Oak Gate 7", "oak gate 7")
	checkFold(t, "", "")
	checkFold(t, "ABCDEFGHIJKLMNOPQRSTUVWXYZ", "abcdefghijklmnopqrstuvwxyz")
	checkFold(t, "abcdefghijklmnopqrstuvwxyz", "abcdefghijklmnopqrstuvwxyz")
	checkFold(t, "@[`{", "@[`{")
	// Neither other letters, nor what is no text.
	checkFold(t, "ÉCOLE ΩMEGA \u212a", "École Ωmega \u212a")
	checkFold(t, "A\xffB\xc3\x00C\x80", "a\xffb\xc3\x00c\x80")
}

func TestFoldOfManyStrings(t *testing.T) { // P9.2, P9.6
	everyString(allBytes(), 2, func(s string) { checkFold(t, s, wantFold(s)) })
	everyString(tricky, 4, func(s string) { checkFold(t, s, wantFold(s)) })
	r := rand.New(rand.NewSource(1))
	for range 5000 {
		s := randomString(r, allBytes(), 100)
		checkFold(t, s, wantFold(s))
		checkFold(t, swapped(r, s), wantFold(s))
	}
}

func TestFoldOfALongString(t *testing.T) { // P1, P9.2
	checkFold(t, strings.Repeat("Oak É\xff", 1<<20), strings.Repeat("oak É\xff", 1<<20))
}

// lower reports whether a is less than b, byte by byte.
func lower(a, b string) bool {
	for i := range len(a) {
		if i >= len(b) {
			return false
		}
		if a[i] != b[i] {
			return a[i] < b[i]
		}
	}
	return len(a) < len(b)
}

// wantLess follows P9.3.
func wantLess(a, b string) bool {
	return lower(wantFold(a), wantFold(b)) || wantFold(a) == wantFold(b) && lower(a, b)
}

func checkLess(t *testing.T, a, b string, want bool) {
	t.Helper()
	if got := gazette.Less(a, b); got != want {
		t.Fatalf("Less(%q, %q) = %v", a, b, got)
	}
}

func TestLessExamples(t *testing.T) { // P9.3, P9.6
	for _, l := range [][]string{
		{"oak", "Oak Gate"},
		{"OAK GATE", "Oak Gate", "oAK gATE", "oak gate"},
		{"A", "a", "b"},
		{"", "\x00", " ", "!", "@", "[", "`", "A", "a", "AA", "Aa", "aA", "aa", "B", "b", "Z", "z", "{", "~", "\x7f", "\x80", "é", "\xff", "\xff\x00"},
		// Less folds all of both strings, before it looks at capital letters.
		{"aB", "Ac"},
		{"ab", "ABc"},
		{"Z", "zA", "ZB"},
		// The bytes between the capital and the small letters come before both.
		{"a_", "AA"},
	} {
		for i, a := range l {
			for j, b := range l {
				checkLess(t, a, b, i < j)
			}
		}
	}
}

func TestLessOfAllShortStrings(t *testing.T) { // P9.3, P9.6
	for _, l := range [][]string{stringsOf(tricky, 2), stringsOf("aAbB_", 3), stringsOf(allBytes(), 1)} {
		for _, a := range l {
			for _, b := range l {
				checkLess(t, a, b, wantLess(a, b))
			}
		}
	}
}

// randomPair draws two strings, which often are equal but for some letters, or begin in the same way.
func randomPair(r *rand.Rand) (a, b string) {
	a = randomString(r, tricky, 30)
	switch r.Intn(4) {
	case 0:
		return a, swapped(r, a)
	case 1:
		return a, swapped(r, a) + randomString(r, tricky, 2)
	case 2:
		return a + randomString(r, tricky, 2), swapped(r, a) + randomString(r, tricky, 2)
	}
	return a, randomString(r, tricky, 30)
}

func TestLessOfManyStrings(t *testing.T) { // P9.3, P9.6
	r := rand.New(rand.NewSource(2))
	count := map[bool]int{}
	for range 20000 {
		a, b := randomPair(r)
		checkLess(t, a, b, wantLess(a, b))
		checkLess(t, b, a, wantLess(b, a))
		count[gazette.Less(a, b)]++
	}
	if count[false] < 5000 || count[true] < 5000 {
		t.Errorf("less or not: %v", count)
	}
}

func TestLessIsAStrictOrder(t *testing.T) { // P9.6
	r := rand.New(rand.NewSource(3))
	chains := 0
	for range 20000 {
		a, b := randomPair(r)
		c := swapped(r, b)
		checkLess(t, a, a, false)
		if ab, ba := gazette.Less(a, b), gazette.Less(b, a); ab && ba || (ab || ba) != (a != b) {
			t.Fatalf("Less of %q and %q: %v, %v", a, b, ab, ba)
		}
		if gazette.Less(a, b) && gazette.Less(b, c) {
			checkLess(t, a, c, true)
			chains++
		}
	}
	if chains < 2000 {
		t.Errorf("only %d chains", chains)
	}
}

func TestLessOfLongStrings(t *testing.T) { // P1, P9.3
	long := strings.Repeat("Oak\xff", 1<<20)
	checkLess(t, long, long, false)
	checkLess(t, long, long+"\x00", true)
	checkLess(t, long+"A", long+"a", true)
	checkLess(t, long+"b", wantFold(long)+"A", false)
	checkLess(t, long, wantFold(long), true)
	checkLess(t, wantFold(long), long, false)
}
