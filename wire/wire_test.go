package wire_test

import (
	"math"
	"math/big"
	"math/rand"
	"slices"
	"strconv"
	"strings"
	"testing"

	"hachure/wire"
)

// someInts holds the bounds of int, numbers of every length, and their neighbours.
func someInts() []int {
	l := []int{math.MinInt, math.MinInt + 1, math.MaxInt - 1, math.MaxInt, 0, 250}
	for p := 1; p <= 1000000000000000000/10; p *= 10 {
		l = append(l, p-1, p, p+1, 1-p, -p, -p-1)
	}
	return append(l, 1000000000000000000, -1000000000000000000)
}

// someTexts holds texts that look like other serializations, and bytes that are no characters.
func someTexts() []string {
	return []string{
		"", "a", "ab", ";", ":", "[", "]", "[]", "0:", "1;", "[1;-2;]", "3:abc", "-", "\x00", "\xff\xfe", "\u00e9\u20ac\U0001F5FA",
		"a\nb", "123456789", "1234567890", strings.Repeat("x", 99), strings.Repeat("]", 100), strings.Repeat("\xff", 12345),
	}
}

func someIntLists() [][]int {
	return [][]int{nil, {}, {0}, {1, -2}, {-1, 0, 1}, {math.MinInt, math.MaxInt}, {7, 7, 7}, someInts()}
}

func someTextLists() [][]string {
	return [][]string{nil, {}, {""}, {"", "a"}, {"", ""}, {"]", "[", ";", ":"}, {"1;", "[0:]"}, someTexts()}
}

// decoder decodes one value from a reader; a value is an int, a string, or a list of one of them.
type decoder struct {
	name   string
	decode func(r *wire.Reader) any
	zero   func(v any) bool
}

func decoders() []decoder {
	return []decoder{
		{"Int", func(r *wire.Reader) any { return r.Int() }, func(v any) bool { return v.(int) == 0 }},
		{"Text", func(r *wire.Reader) any { return r.Text() }, func(v any) bool { return v.(string) == "" }},
		{"Ints", func(r *wire.Reader) any { return r.Ints() }, func(v any) bool { return len(v.([]int)) == 0 }},
		{"Texts", func(r *wire.Reader) any { return r.Texts() }, func(v any) bool { return len(v.([]string)) == 0 }},
	}
}

func serialize(v any) string {
	switch x := v.(type) {
	case int:
		return wire.Int(x)
	case string:
		return wire.Text(x)
	case []int:
		return wire.Ints(x)
	}
	return wire.Texts(v.([]string))
}

func decoderOf(v any) decoder {
	switch v.(type) {
	case int:
		return decoders()[0]
	case string:
		return decoders()[1]
	case []int:
		return decoders()[2]
	}
	return decoders()[3]
}

func equal(v, w any) bool {
	switch x := v.(type) {
	case []int:
		return slices.Equal(x, w.([]int))
	case []string:
		return slices.Equal(x, w.([]string))
	}
	return v == w
}

func someValues() []any {
	var l []any
	for _, n := range someInts() {
		l = append(l, n)
	}
	for _, s := range someTexts() {
		l = append(l, s)
	}
	for _, x := range someIntLists() {
		l = append(l, x)
	}
	for _, x := range someTextLists() {
		l = append(l, x)
	}
	return l
}

// wantBad checks that a call of d makes r bad, that it returns nothing, and that r stays bad, whatever is called then.
func wantBad(t *testing.T, what string, r *wire.Reader, d decoder) {
	t.Helper()
	if v := d.decode(r); !d.zero(v) {
		t.Errorf("%s: %s returned %v", what, d.name, v)
	}
	if !r.Bad() {
		t.Errorf("%s: not bad after %s", what, d.name)
	}
	if n := r.Left(); n != 0 {
		t.Errorf("%s: Left is %d after a failure of %s", what, n, d.name)
	}
	for _, e := range decoders() {
		if v := e.decode(r); !e.zero(v) || !r.Bad() || r.Left() != 0 {
			t.Errorf("%s: a bad reader's %s returned %v, Bad %v, Left %d", what, e.name, v, r.Bad(), r.Left())
		}
	}
}

// TestExamples holds the chapter's table.
func TestExamples(t *testing.T) {
	for _, c := range []struct{ got, want string }{
		{wire.Int(0), "0;"}, {wire.Int(-1), "-1;"}, {wire.Int(250), "250;"},
		{wire.Text("ab"), "2:ab"}, {wire.Text(""), "0:"},
		{wire.Ints([]int{1, -2}), "[1;-2;]"}, {wire.Ints(nil), "[]"}, {wire.Ints([]int{}), "[]"},
		{wire.Texts([]string{"", "a"}), "[0:1:a]"}, {wire.Texts(nil), "[]"}, {wire.Texts([]string{}), "[]"},
	} {
		if c.got != c.want {
			t.Errorf("serialized %q, want %q", c.got, c.want)
		}
	}
	r := wire.New("[1;-2;]3;")
	if l := r.Ints(); !slices.Equal(l, []int{1, -2}) {
		t.Errorf("Ints: %v", l)
	}
	if n := r.Left(); n != 2 {
		t.Errorf("Left: %d", n)
	}
	if n := r.Int(); n != 3 {
		t.Errorf("Int: %d", n)
	}
	if n := r.Left(); n != 0 || r.Bad() {
		t.Errorf("Left at the end: %d, Bad %v", n, r.Bad())
	}
	if n := r.Int(); n != 0 || !r.Bad() {
		t.Errorf("Int past the end: %d, Bad %v", n, r.Bad())
	}
	for _, s := range []string{"01;", "+1;", "-0;", "1", "3:ab"} {
		for _, d := range decoders() {
			wantBad(t, strconv.Quote(s), wire.New(s), d)
		}
	}
}

// TestSerialization checks P2.1 against forms that are put together by other means.
func TestSerialization(t *testing.T) {
	for _, n := range someInts() {
		if got, want := wire.Int(n), big.NewInt(int64(n)).String()+";"; got != want {
			t.Errorf("Int(%d) = %q, want %q", n, got, want)
		}
	}
	if got := wire.Int(math.MinInt); got != "-9223372036854775808;" {
		t.Errorf("Int of the least int: %q", got)
	}
	for _, s := range someTexts() {
		if got, want := wire.Text(s), strings.Join([]string{big.NewInt(int64(len(s))).String(), s}, ":"); got != want {
			t.Errorf("Text(%q) = %q, want %q", s, got, want)
		}
	}
	if got := wire.Text("\u00e9"); got != "2:\xc3\xa9" {
		t.Errorf("Text counts characters, not bytes: %q", got)
	}
	for _, l := range someIntLists() {
		want := "["
		for _, n := range l {
			want += wire.Int(n)
		}
		if got := wire.Ints(l); got != want+"]" {
			t.Errorf("Ints(%v) = %q", l, got)
		}
	}
	for _, l := range someTextLists() {
		want := "["
		for _, s := range l {
			want += wire.Text(s)
		}
		if got := wire.Texts(l); got != want+"]" {
			t.Errorf("Texts(%q) = %q", l, got)
		}
	}
}

// TestNew checks P2.2 of readers that have decoded nothing.
func TestNew(t *testing.T) {
	for _, s := range append(someTexts(), "01;", "garbage") {
		r := wire.New(s)
		if r == nil || r.Bad() || r.Left() != len(s) {
			t.Fatalf("New(%q): bad, or not at its beginning", s)
		}
		if r.Bad() || r.Left() != len(s) {
			t.Errorf("New(%q): Left or Bad moved it", s)
		}
	}
	one, two := wire.New("1;"), wire.New("1;")
	one.Int()
	one.Int()
	if !one.Bad() || two.Bad() || two.Left() != 2 || two.Int() != 1 {
		t.Error("two readers of one text depend on each other")
	}
}

// TestStaysBad checks P2.2: what would be decoded by a reader that is not bad is not decoded by a bad one.
func TestStaysBad(t *testing.T) {
	for _, s := range []string{"1;1;", "1:a1:a", "[1;][1;]", "[1:a][1:a]", "[][]", "0:0:"} {
		for _, d := range decoders() {
			r := wire.New(s)
			if d.decode(r); r.Bad() {
				wantBad(t, strconv.Quote(s), r, d)
			}
		}
	}
}

// TestDecoding checks P2.3 for values whose serializations stand before other bytes.
func TestDecoding(t *testing.T) {
	for _, v := range someValues() {
		s := serialize(v)
		for _, tail := range []string{"", ";", "]", "0", "1;", "x", "\x00", s} {
			r := wire.New(s + tail)
			if got := decoderOf(v).decode(r); !equal(got, v) {
				t.Errorf("%.40q: decoded %v", s+tail, got)
			}
			if r.Bad() || r.Left() != len(tail) {
				t.Errorf("%.40q: Bad %v, Left %d, want %d", s+tail, r.Bad(), r.Left(), len(tail))
			}
		}
	}
}

// TestMalformed checks P2.3 for what is no serialization of its kind.
func TestMalformed(t *testing.T) {
	numbers := []string{
		"", "-", "+", "00", "01", "-01", "-0", "+0", "+1", "--1", "1-", " 1", "1 ", "0x1", "1_000", "1e3", "1.0", "\u0661", "a", "[", "1,", "\n1",
		"9223372036854775808", "-9223372036854775809", "18446744073709551616", "18446744073709551617", "99999999999999999999", "-99999999999999999999",
		strings.Repeat("9", 1000), strings.Repeat("0", 1000), "1" + strings.Repeat("0", 64),
	}
	all := decoders()
	for _, n := range numbers {
		for _, rest := range []string{"", ";", ";;", ";1;", ";]"} {
			wantBad(t, "Int", wire.New(n+rest), all[0])
			wantBad(t, "Ints", wire.New("[1;"+n+rest), all[2])
		}
		for _, rest := range []string{"", ":", "::", ":a", ":abc"} {
			wantBad(t, "Text", wire.New(n+rest), all[1])
			wantBad(t, "Texts", wire.New("[0:"+n+rest), all[3])
		}
	}
	for _, s := range []string{
		"-1:a", "-1:", "1:", "2:a", "3:ab", "100:" + strings.Repeat("a", 99), "9223372036854775807:ab", "-9223372036854775808:ab", "1;a", "1", "10", "1a", ":a", "1 :a",
	} {
		wantBad(t, s, wire.New(s), all[1])
		wantBad(t, "["+s, wire.New("[0:"+s), all[3])
		wantBad(t, "["+s+"]", wire.New("[0:"+s+"]"), all[3])
	}
	for _, s := range []string{
		"", "]", "1;", "1;]", "[1;", "[1]", "[1;2]", "[;]", "[1;;]", "[1:a]", "[0:]", "[[]]", "[[1;]]", " []", "[ ]", "[1; 2;]", "[1;,2;]", "[01;]", "(1;)", "{}",
	} {
		wantBad(t, s, wire.New(s), all[2])
	}
	for _, s := range []string{
		"", "]", "0:", "0:]", "[0:", "[0]", "[1;]", "[:]", "[1:]", "[2:a]", "[1:ab]", "[1:a2:]", "[[]]", "[[0:]]", " []", "[ ]", "[00:]", "[-1:]", "[0: ]", "{}",
	} {
		wantBad(t, s, wire.New(s), all[3])
	}
}

// TestOtherKinds checks P2.3: no decoder takes what another function has serialized, but for empty lists, which look alike.
func TestOtherKinds(t *testing.T) {
	for i, s := range []string{wire.Int(1), wire.Text("a"), wire.Ints([]int{1}), wire.Texts([]string{"a"})} {
		for j, d := range decoders() {
			if i != j {
				wantBad(t, s, wire.New(s), d)
			}
		}
	}
	for _, d := range decoders()[:2] {
		wantBad(t, "[]", wire.New("[]"), d)
	}
}

// shortTexts lists all texts of the bytes of letters that are at most n bytes long.
func shortTexts(letters string, n int) []string {
	l := []string{""}
	for i := 0; i < len(l); i++ {
		for j := 0; len(l[i]) < n && j < len(letters); j++ {
			l = append(l, l[i]+letters[j:j+1])
		}
	}
	return l
}

// lists adds to table the serializations of all lists of at most n bytes, by the serializations of their elements.
func lists[T any](table map[string]any, elements map[string]T, n int, prefix string, l []T) {
	table[prefix+"]"] = slices.Clone(l)
	for s, x := range elements {
		if len(prefix)+len(s)+1 <= n {
			lists(table, elements, n, prefix+s, append(slices.Clone(l), x))
		}
	}
}

// TestEveryShortInput checks P2.3 word for word: which serializations there are is told from all values that have short ones.
func TestEveryShortInput(t *testing.T) {
	const letters, n = "[]-+;:01a", 5
	ints, texts := map[string]int{}, map[string]string{}
	for i := -999; i <= 9999; i++ {
		ints[big.NewInt(int64(i)).String()+";"] = i
	}
	for _, s := range shortTexts(letters, n-2) {
		texts["0123"[len(s):len(s)+1]+":"+s] = s
	}
	tables := []map[string]any{{}, {}, {}, {}}
	for s, v := range ints {
		tables[0][s] = v
	}
	for s, v := range texts {
		tables[1][s] = v
	}
	lists(tables[2], ints, n, "[", []int{})
	lists(tables[3], texts, n, "[", []string{})
	for _, s := range shortTexts(letters, n) {
		for i, d := range decoders() {
			r := wire.New(s)
			length := 0
			for k := 1; k <= len(s) && length == 0; k++ {
				if _, ok := tables[i][s[:k]]; ok {
					length = k
				}
			}
			if length == 0 {
				wantBad(t, strconv.Quote(s), r, d)
			} else if v := d.decode(r); !equal(v, tables[i][s[:length]]) || r.Bad() || r.Left() != len(s)-length {
				t.Errorf("%s of %q: %v, Bad %v, Left %d", d.name, s, v, r.Bad(), r.Left())
			}
		}
	}
}

// TestNilAndZero checks P2.4.
func TestNilAndZero(t *testing.T) {
	var none *wire.Reader
	if !none.Bad() || none.Left() != 0 {
		t.Errorf("a nil reader: Bad %v, Left %d", none.Bad(), none.Left())
	}
	for _, d := range decoders() {
		wantBad(t, "a nil reader", none, d)
		var zero wire.Reader
		if zero.Bad() || zero.Left() != 0 {
			t.Errorf("a zero Reader: Bad %v, Left %d", zero.Bad(), zero.Left())
		}
		wantBad(t, "a zero Reader", &zero, d)
		wantBad(t, "New of the empty string", wire.New(""), d)
	}
}

// TestConcatenation checks the first half of P2.5.
func TestConcatenation(t *testing.T) {
	values := someValues()
	random := rand.New(rand.NewSource(2))
	for range 200 {
		var chosen []any
		text := ""
		for range random.Intn(12) {
			v := values[random.Intn(len(values))]
			chosen, text = append(chosen, v), text+serialize(v)
		}
		r := wire.New(text)
		for _, v := range chosen {
			if got := decoderOf(v).decode(r); !equal(got, v) {
				t.Fatalf("decoded %v, want %v", got, v)
			}
			text = text[len(serialize(v)):]
			if r.Left() != len(text) {
				t.Fatalf("Left %d, want %d", r.Left(), len(text))
			}
		}
		if r.Bad() || r.Left() != 0 {
			t.Fatalf("at the end: Bad %v, Left %d", r.Bad(), r.Left())
		}
	}
}

// TestPrefixFree checks the second half of P2.5.
func TestPrefixFree(t *testing.T) {
	values := someValues()
	for i, v := range values {
		for _, w := range values[:i] {
			if decoderOf(v).name != decoderOf(w).name {
				continue
			}
			s, u := serialize(v), serialize(w)
			if equal(v, w) != (s == u) {
				t.Errorf("%v and %v: equal serializations of different values, or different ones of equal values", v, w)
			}
			if s != u && (strings.HasPrefix(s, u) || strings.HasPrefix(u, s)) {
				t.Errorf("one of %.40q and %.40q is a prefix of the other", s, u)
			}
		}
	}
}

// TestTruncated checks P2.6 for every number of bytes that can be removed.
func TestTruncated(t *testing.T) {
	for _, v := range someValues() {
		s := serialize(v)
		for n := 0; n < len(s); n += 1 + n/500 {
			wantBad(t, "truncated", wire.New(s[:n]), decoderOf(v))
		}
		wantBad(t, "truncated", wire.New(s[:len(s)-1]), decoderOf(v))
	}
}

// TestOwnership checks R3: no list that is handed over is changed, and no two results share memory.
func TestOwnership(t *testing.T) {
	ints, texts := []int{3, 1, 2, 9}[:3], []string{"c", "", "b", "z"}[:3]
	s := wire.Ints(ints) + wire.Ints(ints) + wire.Texts(texts) + wire.Texts(texts)
	if !slices.Equal(ints[:4], []int{3, 1, 2, 9}) || !slices.Equal(texts[:4], []string{"c", "", "b", "z"}) {
		t.Errorf("arguments changed: %v %q", ints[:4], texts[:4])
	}
	r := wire.New(s)
	a, b, c, d := r.Ints(), r.Ints(), r.Texts(), r.Texts()
	for i := range a {
		a[i] = 99
	}
	for i := range c {
		c[i] = "changed"
	}
	a, c = append(a, 99), append(c, "more")
	if !slices.Equal(b, ints) || !slices.Equal(d, texts) || !slices.Equal(ints, []int{3, 1, 2}) || !slices.Equal(texts, []string{"c", "", "b"}) {
		t.Errorf("results share memory: %v %q after changes of %v %q", b, d, a, c)
	}
}
