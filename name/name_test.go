package name

import (
	"math"
	"math/rand"
	"slices"
	"strings"
	"testing"
	"unicode/utf8"
)

// All letters, small and great, each at the place of the other.
const (
	small = "abcdefghijklmnopqrstuvwxyz" + "àáâãäåæçèéêëìíîïðñòóôõöøùúûüýþ" + "αβγδεζηθικλμνξοπρστυφχψω" + "абвгдежзийклмнопрстуфхцчшщъыьэюя"
	great = "ABCDEFGHIJKLMNOPQRSTUVWXYZ" + "ÀÁÂÃÄÅÆÇÈÉÊËÌÍÎÏÐÑÒÓÔÕÖØÙÚÛÜÝÞ" + "ΑΒΓΔΕΖΗΘΙΚΛΜΝΞΟΠΡΣΤΥΦΧΨΩ" + "АБВГДЕЖЗИЙКЛМНОПРСТУФХЦЧШЩЪЫЬЭЮЯ"
)

func TestLetterAndBig(t *testing.T) {
	if n := utf8.RuneCountInString(small); n != 26+30+24+32 || n != utf8.RuneCountInString(great) {
		t.Fatalf("the test has %d letters", n)
	}
	isSmall, isGreat := map[rune]bool{}, map[rune]bool{}
	for _, r := range small {
		isSmall[r] = true
	}
	for _, r := range great {
		isGreat[r] = true
	}
	check := func(r rune) {
		if Letter(r) != isSmall[r] {
			t.Errorf("Letter %U: %v", r, Letter(r))
		}
		if Big(r) != isGreat[r] {
			t.Errorf("Big %U: %v", r, Big(r))
		}
	}
	for r := rune(-70000); r < utf8.MaxRune+70000; r++ {
		check(r)
	}
	for i := range rune(1000) {
		check(math.MinInt32 + i)
		check(math.MaxInt32 - i)
	}
}

func TestRight(t *testing.T) {
	for _, s := range []string{
		"a", "z", "ann", "kdc", "a-", "a--", "a1", "a0-9", "z9", "ána-1", "þ", "ω", "я", "ψы-é0",
		"abcdefghijklmnop", "a123456789012345", "яяяяяяяяяяяяяяяя", "a---------------", small[:16],
	} {
		if !Right(s) {
			t.Errorf("%q is none", s)
		}
	}
	for _, s := range []string{
		"", "1a", "-a", "0", "-", "A", "aB", "Ána", "annÁ", "a b", " a", "a ", "a_", "a.b", "a/", "a:", "a,", "a\n", "a\x00", "\x00",
		"ÿ", "ß", "a÷", "÷", "aς", "ς", "aё", "ё", "a×", "a΢", "aѐ", "aϊ", "aΰ", "a¹", "a١", "a−", "a–", "à̀",
		"\xff", "a\xff", "a\xc3", "\xe1na", "a\uFFFD", "\uFFFD", "a\xc0\x80", "a\xed\xa0\x80", "a\xf5\x80\x80\x80",
		"abcdefghijklmnopq", "a1234567890123456", "яяяяяяяяяяяяяяяяя", "abcdefghijklmnopA", "abcdefghijklmnop\xff", strings.Repeat("a", 100000),
	} {
		if Right(s) {
			t.Errorf("%q is one", s)
		}
	}
}

// Each letter may stand at each place, a digit and a hyphen at each but the first, and nothing else anywhere.
func TestRightAtEachPlace(t *testing.T) {
	for r := rune(0); r < 0x600; r++ {
		for place := range 4 {
			letters := []rune("aяω-")
			letters[place] = r
			letter := strings.ContainsRune(small, r)
			want := letter || place > 0 && strings.ContainsRune("0123456789-", r)
			if s := string(letters); Right(s) != want {
				t.Errorf("%q: %v", s, Right(s))
			}
		}
	}
}

// The runes are counted, not the bytes.
func TestRightLength(t *testing.T) {
	for _, r := range "azàþαωая" {
		for n := range 40 {
			s := strings.Repeat(string(r), n)
			if Right(s) != (1 <= n && n <= 16) {
				t.Errorf("%d of %c: %v", n, r, Right(s))
			}
		}
	}
}

func TestFold(t *testing.T) {
	for _, c := range []struct {
		s, want string
		ok      bool
	}{
		{"Ána-1", "ána-1", true}, {"ann", "ann", true}, {"ANN", "ann", true}, {"A", "a", true}, {"Я", "я", true}, {"Ω-Þ9", "ω-þ9", true},
		{"", "", false}, {"1a", "1a", false}, {"1A", "1a", false}, {"-B", "-b", false}, {"A B", "a b", false}, {"Ann!", "ann!", false},
		{"ABCDEFGHIJKLMNOP", "abcdefghijklmnop", true}, {"ABCDEFGHIJKLMNOPQ", "abcdefghijklmnopq", false}, {"ЯЯЯЯЯЯЯЯЯЯЯЯЯЯЯЯ", "яяяяяяяяяяяяяяяя", true},
		{"A×", "a×", false}, {"A÷", "a÷", false}, {"AÿŸß", "aÿŸß", false}, {"AΣς", "aσς", false}, {"A\u03A2", "a\u03A2", false}, {"AЁ", "aЁ", false}, {"AĀ", "aĀ", false},
		{"@[`{", "@[`{", false}, {"A\n\x00\x7f", "a\n\x00\x7f", false}, {"A😀", "a😀", false}, {"A\U0010FFFF", "a\U0010FFFF", false},
		{"\xff", "\uFFFD", false}, {"A\xffB", "a\uFFFDb", false}, {"A\uFFFDB", "a\uFFFDb", false}, {"\xc3", "\uFFFD", false}, {"A\xc3\x81\xc3", "aá\uFFFD", false},
		{"\xe2\x82A", "\uFFFD\uFFFDa", false}, {"\xed\xa0\x80", "\uFFFD\uFFFD\uFFFD", false}, {"\xc0\x80", "\uFFFD\uFFFD", false}, {"\xf4\x90\x80\x80", "\uFFFD\uFFFD\uFFFD\uFFFD", false},
		{great, small, false}, {small, small, false},
	} {
		if s, ok := Fold(c.s); s != c.want || ok != c.ok {
			t.Errorf("%q: %q, %v", c.s, s, ok)
		}
	}
	if s, ok := Fold(strings.Repeat("Ω\xff", 50000)); s != strings.Repeat("ω\uFFFD", 50000) || ok {
		t.Error("a long text")
	}
}

func TestText(t *testing.T) {
	for _, c := range []struct {
		s    string
		most int
		ok   bool
	}{
		{"", 0, true}, {"", -1, false}, {"", math.MinInt, false}, {"", math.MaxInt, true}, {"a", 0, false}, {"a", 1, true}, {"a", -1, false}, {"ab", 1, false},
		{"hi there", 8, true}, {"hi there", 7, false}, {"  ", 2, true}, {"~", 1, true}, {" ", 1, true}, {"\x1f", 1, false}, {"\x00", 1, false}, {"\x7f", 1, false},
		{"a\nb", 9, false}, {"a\tb", 9, false}, {"\u0080\u009f\u00a0", 3, true}, {"é", 1, true}, {"éя😀", 3, true}, {"éя😀", 2, false}, {"\U0010FFFF", 1, true}, {"\uFFFC\uFFFE\uFFFF", 3, true},
		{"\uFFFD", 1, false}, {"a\uFFFDb", 9, false}, {"\xff", 1, false}, {"a\xe9", 9, false}, {"a\xc3", 9, false}, {"\xed\xa0\x80", 9, false}, {"\xc1\xa1", 9, false},
		{strings.Repeat("ж", 200), 200, true}, {strings.Repeat("ж", 201), 200, false}, {strings.Repeat("a", 100000), math.MaxInt, true}, {strings.Repeat("a", 100000) + "\n", math.MaxInt, false},
		{"abc\n", 3, false}, {"abc\n", 2, false},
	} {
		if ok := Text(c.s, c.most); ok != c.ok {
			t.Errorf("%q, %d: %v", c.s, c.most, ok)
		}
	}
	for r := rune(0); r <= utf8.MaxRune; r++ {
		want := r >= 32 && r != 127 && r != 0xFFFD && utf8.ValidRune(r)
		if Text("a"+string(r), 2) != want {
			t.Errorf("%U: %v", r, !want)
		}
	}
}

func TestWords(t *testing.T) {
	for _, c := range []struct {
		s    string
		want []string
	}{
		{"", []string{""}}, {"a", []string{"a"}}, {"a b", []string{"a", "b"}}, {"chat ann bob hi", []string{"chat", "ann", "bob", "hi"}},
		{" ", []string{"", ""}}, {"  ", []string{"", "", ""}}, {" a", []string{"", "a"}}, {"a ", []string{"a", ""}}, {"a  b", []string{"a", "", "b"}}, {"  a  ", []string{"", "", "a", "", ""}},
		{"a\tb\nc\u00a0d\u2003e", []string{"a\tb\nc\u00a0d\u2003e"}}, {"\xff \xc3", []string{"\xff", "\xc3"}}, {"é я", []string{"é", "я"}},
	} {
		if got := Words(c.s); !slices.Equal(got, c.want) {
			t.Errorf("%q: %q", c.s, got)
		}
	}
	if got := Words(strings.Repeat(" ", 10000)); len(got) != 10001 {
		t.Errorf("%d words", len(got))
	}
}

// What Words answers is the caller's own.
func TestWordsAreNew(t *testing.T) {
	s := "a b c"
	w := Words(s)
	w[1] = "x"
	_ = append(w[:1], "y")
	if s != "a b c" || !slices.Equal(Words(s), []string{"a", "b", "c"}) {
		t.Error("Words keeps something")
	}
}

// folded, rightly and said are Fold, Right and Text by hand, on the runes of a whole text.
func folded(s string) string {
	runes := []rune(s)
	for i, r := range runes {
		if n := slices.Index([]rune(great), r); n >= 0 {
			runes[i] = []rune(small)[n]
		}
	}
	return string(runes)
}

func rightly(s string) bool {
	runes := []rune(s)
	for i, r := range runes {
		if !strings.ContainsRune(small, r) && (i == 0 || !strings.ContainsRune("0123456789-", r)) {
			return false
		}
	}
	return 0 < len(runes) && len(runes) <= 16
}

func said(s string, most int) bool {
	runes := []rune(s)
	seen := func(r rune) bool { return r < 32 || r == 127 || r == 0xFFFD }
	return len(runes) <= most && !slices.ContainsFunc(runes, seen)
}

func TestByChance(t *testing.T) {
	dice := rand.New(rand.NewSource(9))
	bits := []string{"a", "z", "1", "-", " ", "A", "Z", "à", "þ", "÷", "×", "À", "ς", "Σ", "я", "Я", "ё", "\xff", "\xc3", "\xa0", "\xe2\x82", "\uFFFD", "\n", "\x7f", "😀"}
	names := 0
	for range 50000 {
		kinds := 3 + dice.Intn(len(bits)-2)
		var s string
		for range dice.Intn(20) {
			s += bits[dice.Intn(kinds)]
		}
		most := dice.Intn(20)
		f, ok := Fold(s)
		if f != folded(s) || ok != rightly(f) || Right(s) != rightly(s) || Text(s, most) != said(s, most) {
			t.Fatalf("%q, %d: Fold %q %v, Right %v, Text %v", s, most, f, ok, Right(s), Text(s, most))
		}
		if ok {
			names++
		}
		if strings.Join(Words(s), " ") != s || len(Words(s)) != strings.Count(s, " ")+1 {
			t.Fatalf("%q: %q", s, Words(s))
		}
	}
	if names < 1000 {
		t.Errorf("only %d names", names)
	}
}
