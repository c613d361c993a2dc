package lex_test

import (
	"math/rand"
	"regexp"
	"slices"
	"strings"
	"testing"

	"copse/lex"
)

// others are the six tokens of one byte, in the order of their kinds.
const others = "{}[],="

const blanks = "\t\n\r "

const wordBytes = "abcdefghijklmnopqrstuvwxyzABCDEFGHIJKLMNOPQRSTUVWXYZ0123456789._/*:-"

func repeat(s string, n int) string { return strings.Repeat(s, n) }

func tok(kind int, text string, at int) lex.Token {
	return lex.Token{Kind: kind, Text: text, At: at}
}

func word(text string, at int) lex.Token { return tok(1, text, at) }

func list(l ...lex.Token) []lex.Token { return l }

// words are all texts of at most so many of the parts.
func words(most int, parts ...string) []string {
	l := []string{""}
	for from := 0; most > 0; most-- {
		to := len(l)
		for _, s := range l[from:to] {
			for _, p := range parts {
				l = append(l, s+p)
			}
		}
		from = to
	}
	return l
}

// The oracle: the chapter's words as one regular expression, whose first group
// is what is passed over and whose others are the kinds, in their order.

var piece = regexp.MustCompile(`\A(?:([\t\n\r ]|#[^\n]*)|([a-zA-Z0-9._/*:-]+)|(\{)|(\})|(\[)|(\])|(,)|(=))`)

func cut(s string) ([]lex.Token, int) {
	var l []lex.Token
	for at := 0; at < len(s); {
		m := piece.FindStringSubmatch(s[at:])
		if m == nil {
			return l, at
		}
		for group, text := range m {
			if group > 1 && text != "" {
				l = append(l, tok(group-1, text, at))
			}
		}
		at += len(m[0])
	}
	return l, -1
}

func check(t *testing.T, s string, want []lex.Token, at int) {
	t.Helper()
	if l, got := lex.Tokens(s); !slices.Equal(l, want) || got != at {
		t.Errorf("P8.1: Tokens(%q) = %v, %d, want %v, %d", s, l, got, want, at)
	}
}

// checkCut holds what is answered against the oracle.
func checkCut(t *testing.T, s string) {
	t.Helper()
	l, at := cut(s)
	check(t, s, l, at)
}

func TestKinds(t *testing.T) {
	kinds := []int{lex.Word, lex.Open, lex.Close, lex.Begin, lex.End, lex.Comma, lex.Equals}
	if !slices.Equal(kinds, []int{1, 2, 3, 4, 5, 6, 7}) {
		t.Errorf("P8.1: the kinds are %d", kinds)
	}
}

func TestExample1(t *testing.T) {
	check(t, "target a{}", list(word("target", 0), word("a", 7), tok(lex.Open, "{", 8), tok(lex.Close, "}", 9)), -1)
}

func TestExample2(t *testing.T) {
	check(t, "", nil, -1)
	check(t, " \n# x", nil, -1)
	check(t, "a#b\nc", list(word("a", 0), word("c", 4)), -1)
}

func TestExample3(t *testing.T) {
	check(t, "a;b", list(word("a", 0)), 1)
	check(t, "\xc3\xa9", nil, 0)
	check(t, "#\xc3\xa9", nil, -1)
	check(t, "\x00", nil, 0)
	check(t, "\x0b", nil, 0)
}

func TestExample4(t *testing.T) {
	check(t, "//p:n,[*.c]=", list(word("//p:n", 0), tok(lex.Comma, ",", 5), tok(lex.Begin, "[", 6),
		word("*.c", 7), tok(lex.End, "]", 10), tok(lex.Equals, "=", 11)), -1)
}

func TestManifest(t *testing.T) {
	check(t, "# one target\ntarget a.b-C_9 {\n\tsrcs = [x.c, d/*.h] # two\r\n}\n", list(
		word("target", 13), word("a.b-C_9", 20), tok(lex.Open, "{", 28),
		word("srcs", 31), tok(lex.Equals, "=", 36), tok(lex.Begin, "[", 38), word("x.c", 39), tok(lex.Comma, ",", 42),
		word("d/*.h", 44), tok(lex.End, "]", 49), tok(lex.Close, "}", 58),
	), -1)
}

// byItself is the answer to a text of one byte, and what that byte is.
func byItself(c byte) (l []lex.Token, at int, isWord, isBlank bool) {
	s := string([]byte{c})
	isWord, isBlank = strings.Contains(wordBytes, s), strings.Contains(blanks, s)
	switch {
	case isWord:
		return list(word(s, 0)), -1, isWord, isBlank
	case strings.Contains(others, s):
		return list(tok(2+strings.Index(others, s), s, 0)), -1, isWord, isBlank
	case isBlank || c == '#':
		return nil, -1, isWord, isBlank
	}
	return nil, 0, isWord, isBlank
}

func TestOneByte(t *testing.T) {
	tokens, stray := 0, 0
	for c := range 256 {
		l, at, _, _ := byItself(byte(c))
		check(t, string([]byte{byte(c)}), l, at)
		tokens += len(l)
		if at == 0 {
			stray++
		}
	}
	if tokens != 62+6+6 || stray != 256-62-6-6-4-1 {
		t.Errorf("%d bytes are tokens, %d may not stand", tokens, stray)
	}
}

func TestOneByteBetweenWords(t *testing.T) {
	for c := range 256 {
		s := string([]byte{byte(c)})
		l, at, isWord, isBlank := byItself(byte(c))
		switch text := "ab" + s + "cd"; {
		case isWord:
			check(t, text, list(word(text, 0)), -1)
		case isBlank:
			check(t, text, list(word("ab", 0), word("cd", 3)), -1)
		case c == '#':
			check(t, text, list(word("ab", 0)), -1)
		case at == 0:
			check(t, text, list(word("ab", 0)), 2)
		default:
			check(t, text, list(word("ab", 0), tok(l[0].Kind, s, 2), word("cd", 3)), -1)
		}
	}
}

func TestOneByteInManyPlaces(t *testing.T) {
	for c := range 256 {
		s := string([]byte{byte(c)})
		for _, ahead := range []string{"", " ", "a", "a ", "{", "=a", "\n", "#", "#x", "#\n", "a#b\n", "a # ", "# \r", s, "#" + s} {
			for _, behind := range []string{"", " ", "a", " a", "}", "\n", "#", "\n#", "\nx", ";", "\xff", s, "\r" + s, "\n" + s} {
				checkCut(t, ahead+s+behind)
			}
		}
	}
}

func TestTwoBytes(t *testing.T) {
	for a := range 256 {
		for b := range 256 {
			checkCut(t, string([]byte{byte(a), byte(b)}))
		}
	}
}

func TestWords(t *testing.T) {
	for _, s := range []string{
		"a", "Z", "0", "9", ".", "_", "/", "*", ":", "-", "az", "AZ", "09", "...", "//", "**", "::", "--", "__",
		"//a/b:n", ":n", "//...", "d/*.h", "-1", "a-b_c.d/e*f:g", "target", "Target", "srcs", wordBytes, repeat("x", 70000),
	} {
		check(t, s, list(word(s, 0)), -1)
		check(t, " "+s+"\n", list(word(s, 1)), -1)
		check(t, "{"+s+"}", list(tok(lex.Open, "{", 0), word(s, 1), tok(lex.Close, "}", len(s)+1)), -1)
		check(t, s+" "+s, list(word(s, 0), word(s, len(s)+1)), -1)
		check(t, s+"#"+s+"\n"+s, list(word(s, 0), word(s, 2*len(s)+2)), -1)
	}
}

func TestOthers(t *testing.T) {
	kinds := []int{lex.Open, lex.Close, lex.Begin, lex.End, lex.Comma, lex.Equals}
	for i, k := range kinds {
		s := others[i : i+1]
		check(t, s, list(tok(k, s, 0)), -1)
		check(t, s+s+s, list(tok(k, s, 0), tok(k, s, 1), tok(k, s, 2)), -1)
		check(t, "a"+s+"b", list(word("a", 0), tok(k, s, 1), word("b", 2)), -1)
		check(t, "a "+s+" b", list(word("a", 0), tok(k, s, 2), word("b", 4)), -1)
		check(t, "#"+s+"\n"+s, list(tok(k, s, 3)), -1)
		for j, other := range kinds {
			o := others[j : j+1]
			check(t, s+o, list(tok(k, s, 0), tok(other, o, 1)), -1)
			check(t, s+"\t"+o, list(tok(k, s, 0), tok(other, o, 2)), -1)
		}
	}
	for _, s := range []string{"(", ")", "<", ">", ";", "\"", "'", "|", "+", "~", "!", "$", "%", "&", "?", "@", "\\", "^", "`"} {
		check(t, s, nil, 0)
	}
}

func TestBlanks(t *testing.T) {
	for i := range blanks {
		b := blanks[i : i+1]
		check(t, b, nil, -1)
		check(t, b+b+b, nil, -1)
		check(t, "a"+b+"b", list(word("a", 0), word("b", 2)), -1)
		check(t, b+"a"+b+b+"b"+b, list(word("a", 1), word("b", 4)), -1)
	}
	for _, s := range words(5, "\t", "\n", "\r", " ") {
		check(t, s, nil, -1)
		check(t, "a"+s+",b", list(word("a", 0), tok(lex.Comma, ",", 1+len(s)), word("b", 2+len(s))), -1)
	}
	for _, s := range []string{"\x00", "\x08", "\x0b", "\x0c", "\x0e", "\x1f", "\x7f", "\x85", "\xa0", "\u0085", "\u00a0", "\u2028", "\u3000", "\ufeff"} {
		check(t, s, nil, 0)
		check(t, "a"+s+"b", list(word("a", 0)), 1)
	}
}

func TestComments(t *testing.T) {
	for _, body := range []string{
		"", " ", "#", "##", "x", "target a{}", "{}[],=", ";", "\x00", "\x0b", "\r", "\r\r x", "\xff", "\xc3", "é", "\u2028", "\x7f;\"'", repeat("y", 70000), repeat("#", 500),
	} {
		c := "#" + body
		check(t, c, nil, -1)
		check(t, c+"\n", nil, -1)
		check(t, c+"\r\n", nil, -1)
		check(t, c+"\r;", nil, -1)
		check(t, "a"+c, list(word("a", 0)), -1)
		check(t, "a "+c+"\n", list(word("a", 0)), -1)
		check(t, c+"\na", list(word("a", len(c)+1)), -1)
		check(t, c+"\n"+c+"\na", list(word("a", 2*len(c)+2)), -1)
		check(t, "{"+c+"\n}", list(tok(lex.Open, "{", 0), tok(lex.Close, "}", len(c)+2)), -1)
		check(t, c+"\n;", nil, len(c)+1)
		check(t, "a"+c+"\nb\x00", list(word("a", 0), word("b", len(c)+2)), len(c)+3)
	}
}

func TestStrayBytes(t *testing.T) {
	stray := []string{";", "\x00", "\x0b", "\x0c", "(", "\"", "\\", "\x7f", "\x80", "\xff", "é", "\u2028", "a\u0301"[1:]}
	for _, s := range stray {
		check(t, s, nil, 0)
		check(t, s+" a", nil, 0)
		check(t, s+"#", nil, 0)
		check(t, " \n"+s, nil, 2)
		check(t, "a"+s, list(word("a", 0)), 1)
		check(t, "a "+s+"b", list(word("a", 0)), 2)
		check(t, "ab,"+s+"{}", list(word("ab", 0), tok(lex.Comma, ",", 2)), 3)
		check(t, "a"+s+"b c", list(word("a", 0)), 1)
		check(t, "{ }\n"+s, list(tok(lex.Open, "{", 0), tok(lex.Close, "}", 2)), 4)
		for _, other := range stray {
			check(t, s+other, nil, 0)
			check(t, "="+s+" "+other, list(tok(lex.Equals, "=", 0)), 1)
			check(t, "#"+s+"\n"+other+s, nil, len(s)+2)
		}
	}
}

func TestTextsThatEndInside(t *testing.T) {
	check(t, "tar", list(word("tar", 0)), -1)
	check(t, "target", list(word("target", 0)), -1)
	check(t, "target a{srcs=[x", list(word("target", 0), word("a", 7), tok(lex.Open, "{", 8), word("srcs", 9),
		tok(lex.Equals, "=", 13), tok(lex.Begin, "[", 14), word("x", 15)), -1)
	check(t, "a #", list(word("a", 0)), -1)
	check(t, "a # b", list(word("a", 0)), -1)
	check(t, "a # b\r", list(word("a", 0)), -1)
	check(t, "a\n#\n", list(word("a", 0)), -1)
}

// shortTexts are all short texts of bytes of each sort.
func shortTexts() []string {
	return append(words(6, "a", "*", "=", " ", "\n", "#", ";"), words(4, "b", "{", "}", "[", "]", ",", "=", "\t", "\r", "#", "\n", "\xc3", "\xa9")...)
}

// manyTexts are long ones: of parts, and of any bytes.
func manyTexts() []string {
	r := rand.New(rand.NewSource(8))
	parts := []string{
		"target", "srcs", "deps", "see", "public", "//a/b:n", ":n", "*.c", "d/*.h", "x", "0", "-", "{", "}", "[", "]", ",", "=",
		" ", "  ", "\t", "\n", "\r", "\r\n", "#", "# a\n", "#{é\x00\n", "#\n", "##",
	}
	var l []string
	for n := range 3000 {
		s := ""
		for range r.Intn(60) {
			s += parts[r.Intn(len(parts))]
		}
		if n%3 == 0 {
			at := r.Intn(len(s) + 1)
			s = s[:at] + string([]byte{byte(r.Intn(256))}) + s[at:]
		}
		l = append(l, s)
	}
	for range 3000 {
		b := make([]byte, r.Intn(30))
		for i := range b {
			b[i] = byte(r.Intn(256))
		}
		l = append(l, string(b), "#"+string(b)+"\na")
	}
	return l
}

func TestAllShortTexts(t *testing.T) {
	for _, s := range shortTexts() {
		checkCut(t, s)
	}
}

func TestManyTexts(t *testing.T) {
	most, stray := 0, 0
	for _, s := range manyTexts() {
		checkCut(t, s)
		l, at := cut(s)
		most = max(most, len(l))
		if at >= 0 {
			stray++
		}
	}
	if most < 25 || stray < 1000 {
		t.Errorf("the texts have at most %d tokens, %d a byte that may not stand", most, stray)
	}
}

func TestLongTexts(t *testing.T) {
	const n = 1 << 20
	check(t, repeat("a", n), list(word(repeat("a", n), 0)), -1)
	check(t, repeat(" ", n), nil, -1)
	check(t, repeat("#", n), nil, -1)
	check(t, repeat("#\n", n)+"a", list(word("a", 2*n)), -1)
	check(t, repeat("\n", n)+"\x00", nil, n)
	l, at := lex.Tokens(repeat("=a", n) + ";")
	if len(l) != 2*n || at != 2*n {
		t.Fatalf("P8.1: %d tokens, %d, want %d of both", len(l), at, 2*n)
	}
	for i, x := range l {
		if want := list(tok(lex.Equals, "=", i), word("a", i))[i%2]; x != want {
			t.Fatalf("P8.1: token %d is %v, want %v", i, x, want)
		}
	}
}

// What lies between two tokens, and behind the last one.
var (
	between = regexp.MustCompile(`\A(?:[\t\n\r ]|#[^\n]*\n)*\z`)
	last    = regexp.MustCompile(`\A(?:[\t\n\r ]|#[^\n]*\n)*(?:#[^\n]*)?\z`)
)

// checkPlaces: places rise, tokens don't overlap, each stands at its place,
// nothing but blanks and comments is between, and words are apart.
func checkPlaces(t *testing.T, s string, l []lex.Token, at int) {
	t.Helper()
	end := 0
	for i, x := range l {
		if x.Text == "" || x.At < end || !strings.HasPrefix(s[min(x.At, len(s)):], x.Text) {
			t.Errorf("P8.2: Tokens(%q): token %d is %v", s, i, x)
			return
		}
		if !between.MatchString(s[end:x.At]) {
			t.Errorf("P8.2: Tokens(%q): %q lies ahead of token %d", s, s[end:x.At], i)
		}
		if i > 0 && x.Kind == lex.Word && l[i-1].Kind == lex.Word && x.At == end {
			t.Errorf("P8.2: Tokens(%q): the words %v and %v side by side", s, l[i-1], x)
		}
		end = x.At + len(x.Text)
	}
	if at >= 0 && (at < end || at >= len(s) || !between.MatchString(s[end:at])) {
		t.Errorf("P8.2: Tokens(%q): the last token ends at %d, the fault is at %d", s, end, at)
	}
	if at < 0 && !last.MatchString(s[end:]) {
		t.Errorf("P8.2: Tokens(%q): %q lies behind the last token", s, s[end:])
	}
}

// checkTexts: the tokens' texts, with a blank between them, give them again.
func checkTexts(t *testing.T, s string, l []lex.Token) {
	t.Helper()
	var texts []string
	for _, x := range l {
		texts = append(texts, x.Text)
	}
	for i := range blanks {
		joined := strings.Join(texts, blanks[i:i+1])
		again, at := lex.Tokens(joined)
		same := slices.EqualFunc(l, again, func(a, b lex.Token) bool { return a.Kind == b.Kind && a.Text == b.Text })
		if !same || at != -1 {
			t.Errorf("P8.2: Tokens(%q) = %v, %d, of %q %v", joined, again, at, s, l)
		}
	}
}

// checkBeginnings: what ends right behind a token, or a blank, has the tokens
// up to there.
func checkBeginnings(t *testing.T, s string, l []lex.Token, at int) {
	t.Helper()
	ends := map[int]bool{0: true}
	for _, x := range l {
		ends[x.At+len(x.Text)] = true
	}
	for i := range len(s) {
		if strings.IndexByte(blanks, s[i]) >= 0 {
			ends[i+1] = true
		}
	}
	for end := range ends {
		n := 0
		for n < len(l) && l[n].At < end {
			n++
		}
		want := at
		if at >= end {
			want = -1
		}
		if got, place := lex.Tokens(s[:end]); !slices.Equal(got, l[:n]) || place != want {
			t.Errorf("P8.2: Tokens(%q) = %v, %d, want %v, %d, as %q begins", s[:end], got, place, l[:n], want, s)
		}
	}
}

func TestWhatFollows(t *testing.T) {
	texts := append(words(5, "a", "/", ",", "\r", "\n", "#", ";"), manyTexts()...)
	for _, s := range append(texts, words(4, "{", "}", "[", "]", "=", " ", "\t", "b")...) {
		l, at := lex.Tokens(s)
		checkPlaces(t, s, l, at)
		checkTexts(t, s, l)
		checkBeginnings(t, s, l, at)
	}
}

// fill writes over a list and its spare room; filled tells whether that is still there.
func fill(l []lex.Token, mark lex.Token) {
	for i := range l[:cap(l)] {
		l[:cap(l)][i] = mark
	}
}

func filled(l []lex.Token, mark lex.Token) bool {
	return !slices.ContainsFunc(l[:cap(l)], func(x lex.Token) bool { return x != mark })
}

func TestListsAreNewMemory(t *testing.T) {
	one, two := tok(-9, "one", -9), tok(-8, "two", -8)
	for _, s := range append(words(4, "a", "=", " ", "#", "\n", ";"), manyTexts()...) {
		want, at := cut(s)
		first, _ := lex.Tokens(s)
		second, _ := lex.Tokens(s)
		fill(first, one)
		if !slices.Equal(second, want) {
			t.Fatalf("P8.3: two answers to %q share memory", s)
		}
		fill(second, two)
		if !filled(first, one) {
			t.Fatalf("P8.3: two answers to %q share memory or spare room", s)
		}
		third, place := lex.Tokens(s)
		if !slices.Equal(third, want) || place != at {
			t.Fatalf("P8.3: what is written over an answer to %q is seen in the next", s)
		}
		if !filled(first, one) || !filled(second, two) {
			t.Fatalf("P8.3: a call of %q writes over an earlier answer", s)
		}
	}
}

func TestAnswersToUnlikeTextsAreApart(t *testing.T) {
	mark := tok(-9, "mark", -9)
	for _, s := range words(3, "a ", "{", ";") {
		long, _ := lex.Tokens(repeat("a ", 100))
		whole := slices.Clone(long[:cap(long)])
		short, _ := lex.Tokens(s)
		fill(append(short, mark), mark)
		fill(short, mark)
		if !slices.Equal(long[:cap(long)], whole) {
			t.Errorf("P8.3: an answer changes with what is done to that of %q", s)
		}
	}
}
