package lex_test

import (
	"math"
	"math/big"
	"math/rand"
	"regexp"
	"slices"
	"strconv"
	"strings"
	"testing"
	"unsafe"

	"runrig/api"
	"runrig/lex"
)

const (
	letters  = "abcdefghijklmnopqrstuvwxyzABCDEFGHIJKLMNOPQRSTUVWXYZ"
	digits   = "0123456789"
	greatest = "9223372036854775807"
)

// keywords and operators are those of the document, written out once more.
func keywords() []string {
	return strings.Fields("record global func var let if else while return print null new len read true false int bool")
}

func operators() []string {
	return strings.Fields("<= == != && || { } ( ) [ ] ; : , . = + - * / % < !")
}

func word(text string, at int) api.Tok { return api.Tok{Kind: api.KWord, Text: text, At: at} }
func name(text string, at int) api.Tok { return api.Tok{Kind: api.KName, Text: text, At: at} }
func sign(text string, at int) api.Tok { return api.Tok{Kind: api.KSign, Text: text, At: at} }
func number(n, at int) api.Tok         { return api.Tok{Kind: api.KInt, N: n, At: at} }

// checkTokens wants these tokens and, behind them, the KEnd at the length of the text.
func checkTokens(t *testing.T, s string, want ...api.Tok) {
	t.Helper()
	want = append(slices.Clone(want), api.Tok{Kind: api.KEnd, At: len(s)})
	got, fault := lex.Tokens(s)
	if fault != (api.Fault{}) || !slices.Equal(got, want) {
		t.Errorf("Tokens(%.80q) = %v, %v; want %v", s, got, fault, want)
	}
}

// checkFault wants this error at this place, and no tokens.
func checkFault(t *testing.T, s string, e api.Errno, at int) {
	t.Helper()
	if got, fault := lex.Tokens(s); fault != (api.Fault{E: e, At: at}) || len(got) != 0 {
		t.Errorf("Tokens(%.80q) = %v, %v; want error %d at %d", s, got, fault, e, at)
	}
}

func checkNames(t *testing.T, s string, isWord, isName bool) {
	t.Helper()
	if got := lex.Word(s); got != isWord {
		t.Errorf("Word(%.40q) = %t", s, got)
	}
	if got := lex.Name(s); got != isName {
		t.Errorf("Name(%.40q) = %t", s, got)
	}
}

// P2.1: a keyword is a word and no name.
func TestKeywords(t *testing.T) {
	for _, s := range keywords() {
		checkNames(t, s, true, false)
	}
}

// P2.1: what differs from a keyword in anything is none, and is a name if it has the form of one.
func TestWhatIsNearAKeyword(t *testing.T) {
	for _, s := range keywords() {
		checkNames(t, strings.ToUpper(s), false, true)
		checkNames(t, strings.ToUpper(s[:1])+s[1:], false, true)
		checkNames(t, s+"1", false, true)
		checkNames(t, s+"x", false, true)
		checkNames(t, "x"+s, false, true)
		checkNames(t, s[:len(s)-1], false, true)
		for _, other := range []string{"1" + s, s + " ", " " + s, s + "\x00", s + "\n", s + "_", s + "\xff", "\xef\xbb\xbf" + s} {
			checkNames(t, other, false, false)
		}
	}
	for _, s := range strings.Fields("for break goto fun def void string char nil this do end then array integer boolean") {
		checkNames(t, s, false, true)
	}
}

// P2.1: every text of one to four small letters is a name, except the keywords.
func TestAllShortWords(t *testing.T) {
	words := keywords()
	texts := []string{""}
	for range 4 {
		var longer []string
		for _, s := range texts {
			for _, letter := range letters[:26] {
				longer = append(longer, s+string(letter))
			}
		}
		for _, s := range longer {
			isWord := slices.Contains(words, s)
			checkNames(t, s, isWord, !isWord)
		}
		texts = longer
	}
}

// P2.1: which bytes may begin a name, and which may follow.
func TestBytesOfNames(t *testing.T) {
	for i := range 256 {
		b := string([]byte{byte(i)})
		isLetter := strings.Contains(letters, b)
		belongs := isLetter || strings.Contains(digits, b)
		checkNames(t, b, false, isLetter)
		checkNames(t, b+"z", false, isLetter)
		checkNames(t, "z"+b, false, belongs)
		checkNames(t, "a"+b+"c", false, belongs)
		checkNames(t, "abcdefg"+b, false, belongs)
	}
}

// P2.1: a name has at least one byte, and at most MaxName.
func TestLengthsOfNames(t *testing.T) {
	checkNames(t, "", false, false)
	for length := 1; length <= 3*api.MaxName; length++ {
		checkNames(t, strings.Repeat("q", length), false, length <= api.MaxName)
		checkNames(t, "q"+strings.Repeat("7", length-1), false, length <= api.MaxName)
	}
	for _, s := range []string{"a", "0", "\x00", "\xff", " ", "if"} {
		checkNames(t, strings.Repeat(s, 1<<20), false, false)
	}
}

// P2.1: texts beyond ASCII, whatever they look like.
func TestNamesAreASCII(t *testing.T) {
	for _, s := range []string{"\u00e4", "a\u00e4", "\u0430", "\uff41", "a\u0661", "i\u0307f", "\u212a", "a\u0301", "\xff", "a\xff"} {
		checkNames(t, s, false, false)
	}
}

// P2.2: an ordinary text with tokens of all kinds.
func TestTokensOfAProgram(t *testing.T) {
	s := "func f(a: [int]): bool {\n\tlet x9: int = a[0] % 12; // rest\n\treturn !(x9 <= 3) && true;\n}\n"
	checkTokens(t, s,
		word("func", 0), name("f", 5), sign("(", 6), name("a", 7), sign(":", 8), sign("[", 10), word("int", 11),
		sign("]", 14), sign(")", 15), sign(":", 16), word("bool", 18), sign("{", 23),
		word("let", 26), name("x9", 30), sign(":", 32), word("int", 34), sign("=", 38), name("a", 40), sign("[", 41),
		number(0, 42), sign("]", 43), sign("%", 45), number(12, 47), sign(";", 49),
		word("return", 60), sign("!", 67), sign("(", 68), name("x9", 69), sign("<=", 72), number(3, 75), sign(")", 76),
		sign("&&", 78), word("true", 81), sign(";", 85), sign("}", 87))
}

// P2.2: the empty text has the KEnd alone, and so has one of white space or comments.
func TestTokensOfNothing(t *testing.T) {
	for _, s := range []string{"", " ", "\t", "\n", "\r", " \t\r\n ", "//", "///", "// a", "//\n", "\n//\n", "// a\n\t// b\r\n", "//a//b"} {
		checkTokens(t, s)
	}
}

// P2.2: a keyword and a name, alone and where other tokens touch them.
func TestTokensOfWords(t *testing.T) {
	for _, s := range keywords() {
		checkTokens(t, s, word(s, 0))
		checkTokens(t, "("+s+")", sign("(", 0), word(s, 1), sign(")", 1+len(s)))
		checkTokens(t, s+"1", name(s+"1", 0))
		checkTokens(t, strings.ToUpper(s), name(strings.ToUpper(s), 0))
	}
	checkTokens(t, "iff", name("iff", 0))
	checkTokens(t, "If", name("If", 0))
	checkTokens(t, "a.b", name("a", 0), sign(".", 1), name("b", 2))
	checkTokens(t, "x1y2Z3", name("x1y2Z3", 0))
}

// P2.2: a name of MaxName bytes, and of one more.
func TestTokensOfLongNames(t *testing.T) {
	for _, s := range []string{"abcdefgh", "A2345678", "recordif"} {
		checkTokens(t, s, name(s, 0))
		checkTokens(t, " "+s+";", name(s, 1), sign(";", 9))
		checkFault(t, s+"i", api.ErrLex, 0)
		checkFault(t, s+"9", api.ErrLex, 0)
		checkFault(t, "x = "+s+"9 ;", api.ErrLex, 4)
		checkFault(t, s+s, api.ErrLex, 0)
	}
	checkFault(t, strings.Repeat("a", api.MaxText), api.ErrLex, 0)
	checkFault(t, "a "+strings.Repeat("z", api.MaxText-2), api.ErrLex, 2)
}

// P2.2: the values of numbers, up to the greatest.
func TestTokensOfNumbers(t *testing.T) {
	for _, n := range []int{0, 1, 9, 10, 100, 12345, 1<<31 - 1, 1 << 32, 1 << 53, 1<<53 + 1, math.MaxInt - 1, math.MaxInt} {
		s := strconv.Itoa(n)
		checkTokens(t, s, number(n, 0))
		checkTokens(t, " "+s+")", number(n, 1), sign(")", 1+len(s)))
	}
	checkTokens(t, "0", number(0, 0))
	checkTokens(t, greatest, number(math.MaxInt, 0))
	checkTokens(t, "-"+greatest, sign("-", 0), number(math.MaxInt, 1))
	checkTokens(t, "1.2", number(1, 0), sign(".", 1), number(2, 2))
	checkTokens(t, "0 0", number(0, 0), number(0, 2))
}

// P2.2: numbers beyond the greatest.
func TestNumbersThatAreTooGreat(t *testing.T) {
	for _, s := range []string{
		"9223372036854775808", "9223372036854775809", "9223372036854775810", "9300000000000000000", "9999999999999999999",
		"10000000000000000000", "18446744073709551615", "18446744073709551616", "18446744073709551617", "92233720368547758070",
		strings.Repeat("9", 40), "1" + strings.Repeat("0", 300), strings.Repeat("7", api.MaxText-3),
	} {
		checkFault(t, s, api.ErrLex, 0)
		checkFault(t, "a "+s, api.ErrLex, 2)
		checkFault(t, "-"+s+";", api.ErrLex, 1)
	}
}

// P2.2: a number that begins with 0 has one digit.
func TestNumbersThatBeginWithZero(t *testing.T) {
	for _, s := range []string{"00", "01", "007", "000", "0123456789", "0" + greatest, "00000000000000000000000", "08", strings.Repeat("0", api.MaxText-3)} {
		checkFault(t, s, api.ErrLex, 0)
		checkFault(t, "a["+s, api.ErrLex, 2)
		checkFault(t, s+" ", api.ErrLex, 0)
	}
	checkTokens(t, "100", number(100, 0))
	checkTokens(t, "0;", number(0, 0), sign(";", 1))
}

// P2.2: a letter right behind a number spoils it from its first digit on; any other byte does not.
func TestBytesBehindNumbers(t *testing.T) {
	for _, digits := range []string{"0", "7", "12", greatest} {
		for _, letter := range letters {
			checkFault(t, "a "+digits+string(letter), api.ErrLex, 2)
			checkFault(t, digits+string(letter)+" 1", api.ErrLex, 0)
			checkFault(t, digits+string(letter)+"1", api.ErrLex, 0)
		}
		n, _ := strconv.Atoi(digits)
		end := len(digits)
		checkTokens(t, digits+" a", number(n, 0), name("a", end+1))
		checkTokens(t, digits+"//a\na", number(n, 0), name("a", end+4))
		checkTokens(t, digits+"(a", number(n, 0), sign("(", end), name("a", end+1))
		for _, other := range []string{"_", "\x00", "\u00e4", "\xff", "#", "&"} {
			checkFault(t, digits+other, api.ErrLex, end)
		}
	}
	checkFault(t, "01a", api.ErrLex, 0)
	checkFault(t, "0x10", api.ErrLex, 0)
	checkFault(t, "1e3", api.ErrLex, 0)
	checkFault(t, "1_0", api.ErrLex, 1)
	checkFault(t, "9223372036854775808a", api.ErrLex, 0)
}

// P2.2: each operator alone and between other tokens.
func TestTokensOfOperators(t *testing.T) {
	for _, s := range operators() {
		checkTokens(t, s, sign(s, 0))
		checkTokens(t, "a"+s+"1", name("a", 0), sign(s, 1), number(1, 1+len(s)))
		checkTokens(t, " if "+s+" b", word("if", 1), sign(s, 4), name("b", 5+len(s)))
	}
}

// P2.2: the longest operator that matches is taken, from left to right.
func TestLongestOperator(t *testing.T) {
	checkTokens(t, "<=", sign("<=", 0))
	checkTokens(t, "< =", sign("<", 0), sign("=", 2))
	checkTokens(t, "=<", sign("=", 0), sign("<", 1))
	checkTokens(t, "<==", sign("<=", 0), sign("=", 2))
	checkTokens(t, "<===", sign("<=", 0), sign("==", 2))
	checkTokens(t, "<<=", sign("<", 0), sign("<=", 1))
	checkTokens(t, "=<=", sign("=", 0), sign("<=", 1))
	checkTokens(t, "===", sign("==", 0), sign("=", 2))
	checkTokens(t, "====", sign("==", 0), sign("==", 2))
	checkTokens(t, "==!=", sign("==", 0), sign("!=", 2))
	checkTokens(t, "=!=", sign("=", 0), sign("!=", 1))
	checkTokens(t, "!==", sign("!=", 0), sign("=", 2))
	checkTokens(t, "!!=", sign("!", 0), sign("!=", 1))
	checkTokens(t, "! =", sign("!", 0), sign("=", 2))
	checkTokens(t, "=!", sign("=", 0), sign("!", 1))
	checkTokens(t, "!<!", sign("!", 0), sign("<", 1), sign("!", 2))
	checkTokens(t, "&&&&", sign("&&", 0), sign("&&", 2))
	checkTokens(t, "||||", sign("||", 0), sign("||", 2))
	checkTokens(t, "--", sign("-", 0), sign("-", 1))
	checkTokens(t, "++", sign("+", 0), sign("+", 1))
}

// P2.2: a single & or |, and > in any company, begin no token.
func TestSignsThatAreHalves(t *testing.T) {
	for _, s := range []string{"&", "|", ">"} {
		checkFault(t, s, api.ErrLex, 0)
		checkFault(t, "a "+s+" b", api.ErrLex, 2)
		checkFault(t, "a"+s+"b", api.ErrLex, 1)
		checkFault(t, "a"+s, api.ErrLex, 1)
		checkFault(t, s+" "+s, api.ErrLex, 0)
	}
	checkFault(t, "a &&& b", api.ErrLex, 4)
	checkFault(t, "a ||| b", api.ErrLex, 4)
	checkFault(t, "&|", api.ErrLex, 0)
	checkFault(t, "&=", api.ErrLex, 0)
	checkFault(t, "a >= b", api.ErrLex, 2)
	checkFault(t, "a >> b", api.ErrLex, 2)
	checkFault(t, "a <> b", api.ErrLex, 3)
	checkFault(t, "a => b", api.ErrLex, 3)
	checkFault(t, "a -> b", api.ErrLex, 3)
}

// P2.2: what each byte is on its own, and between two names.
func TestEveryByte(t *testing.T) {
	for i := range 256 {
		b := string([]byte{byte(i)})
		switch {
		case strings.Contains(" \t\n\r", b):
			checkTokens(t, b)
			checkTokens(t, "x"+b+"y", name("x", 0), name("y", 2))
		case strings.Contains(letters, b):
			checkTokens(t, b, name(b, 0))
			checkTokens(t, "x"+b+"y", name("x"+b+"y", 0))
		case strings.Contains(digits, b):
			checkTokens(t, b, number(i-'0', 0))
			checkTokens(t, "x"+b+"y", name("x"+b+"y", 0))
		case slices.Contains(operators(), b):
			checkTokens(t, b, sign(b, 0))
			checkTokens(t, "x"+b+"y", name("x", 0), sign(b, 1), name("y", 2))
		default:
			checkFault(t, b, api.ErrLex, 0)
			checkFault(t, "x"+b+"y", api.ErrLex, 1)
			checkFault(t, "if "+b, api.ErrLex, 3)
		}
	}
}

// P2.2: bytes beyond ASCII are neither letters, digits nor white space.
func TestTokensBeyondASCII(t *testing.T) {
	for _, s := range []string{"\u00e4", "\u00a0", "\u0085", "\u2003", "\u2028", "\ufeff", "\u0661", "\uff11", "\uff41", "\u2260", "\U0001f600", "\xff", "\xc0\xaf", "\x80"} {
		checkFault(t, s, api.ErrLex, 0)
		checkFault(t, "ab"+s, api.ErrLex, 2)
		checkFault(t, "a 12"+s, api.ErrLex, 4)
		checkTokens(t, "//"+s+"\na", name("a", len(s)+3))
	}
}

// P2.2: a comment goes on up to the next line feed or the end, whatever it contains.
func TestComments(t *testing.T) {
	checkTokens(t, "a//", name("a", 0))
	checkTokens(t, "a // b", name("a", 0))
	checkTokens(t, "a // 007 & | > # \xff\x00", name("a", 0))
	checkTokens(t, "a // b\nc", name("a", 0), name("c", 7))
	checkTokens(t, "a // b\rc", name("a", 0))
	checkTokens(t, "a // b\r\nc", name("a", 0), name("c", 8))
	checkTokens(t, "a // b // c\nd", name("a", 0), name("d", 12))
	checkTokens(t, "//a\n//b\nc", name("c", 8))
	checkTokens(t, "//\n1", number(1, 3))
	checkTokens(t, "a///b\n/c", name("a", 0), sign("/", 6), name("c", 7))
	checkTokens(t, "a/b", name("a", 0), sign("/", 1), name("b", 2))
	checkTokens(t, "a/ /b", name("a", 0), sign("/", 1), sign("/", 3), name("b", 4))
	checkTokens(t, "/*//*/", sign("/", 0), sign("*", 1))
	checkTokens(t, "<//=\n=", sign("<", 0), sign("=", 5))
	checkTokens(t, "ab//\ncd", name("ab", 0), name("cd", 5))
	checkFault(t, "// a\n#", api.ErrLex, 5)
}

// P2.2: a text of MaxText bytes, and of one more.
func TestLengthsOfTexts(t *testing.T) {
	long := strings.Repeat("if ", api.MaxText/3-1) + "abc"
	got, fault := lex.Tokens(long)
	if fault != (api.Fault{}) || len(got) != api.MaxText/3+1 || got[len(got)-1] != (api.Tok{Kind: api.KEnd, At: api.MaxText}) {
		t.Errorf("%d tokens of %d bytes, %v", len(got), len(long), fault)
	}
	checkTokens(t, strings.Repeat(" ", api.MaxText))
	checkTokens(t, "//"+strings.Repeat("\xff", api.MaxText-2))
	checkTokens(t, strings.Repeat("\n", api.MaxText-1)+";", sign(";", api.MaxText-1))
	checkFault(t, strings.Repeat("\n", api.MaxText-1)+"#", api.ErrLex, api.MaxText-1)
	for _, s := range []string{long + " ", long + "d", " " + long} {
		checkFault(t, s, api.ErrLimit, 0)
	}
	for _, length := range []int{api.MaxText + 1, api.MaxText + 2, 2 * api.MaxText, 1 << 24} {
		for _, s := range []string{" ", "a", "#", ";", "/", "0", "\xff"} {
			checkFault(t, strings.Repeat(s, length), api.ErrLimit, 0)
		}
	}
}

// P2.2: the first token that is none determines the place; the length of the text comes ahead of all.
func TestFirstFault(t *testing.T) {
	checkFault(t, "a # 007", api.ErrLex, 2)
	checkFault(t, "a 007 #", api.ErrLex, 2)
	checkFault(t, "abcdefghi 1a", api.ErrLex, 0)
	checkFault(t, " \n\t1a abcdefghi", api.ErrLex, 3)
	checkFault(t, "##", api.ErrLex, 0)
	checkFault(t, "a_b", api.ErrLex, 1)
	checkFault(t, "_a", api.ErrLex, 0)
	checkFault(t, "\"a\"", api.ErrLex, 0)
	checkFault(t, "'a'", api.ErrLex, 0)
	checkFault(t, "#"+strings.Repeat(" ", api.MaxText), api.ErrLimit, 0)
}

// The patterns of the reference below: the document's rules once more, in another form.
var (
	blankPattern  = regexp.MustCompile(`^(?:[ \t\n\r]|//[^\n]*)+`)
	wordPattern   = regexp.MustCompile(`^[a-zA-Z][a-zA-Z0-9]*`)
	numberPattern = regexp.MustCompile(`^[0-9]+[a-zA-Z]?`)
	properNumber  = regexp.MustCompile(`^(?:0|[1-9][0-9]*)$`)
	signPattern   = regexp.MustCompile(`^(?:<=|==|!=|&&|\|\||[{}()\[\];:,.=+*/%<!-])`)
)

// reference is Tokens by patterns; false and a place at the first token that is none.
func reference(s string) ([]api.Tok, int, bool) {
	var tokens []api.Tok
	at := len(blankPattern.FindString(s))
	for at < len(s) {
		token, text := referenceToken(s[at:])
		if text == "" {
			return nil, at, false
		}
		token.At = at
		tokens = append(tokens, token)
		at += len(text)
		at += len(blankPattern.FindString(s[at:]))
	}
	return tokens, 0, true
}

func referenceToken(s string) (api.Tok, string) {
	if text := wordPattern.FindString(s); text != "" {
		switch {
		case slices.Contains(keywords(), text):
			return word(text, 0), text
		case len(text) <= api.MaxName:
			return name(text, 0), text
		}
		return api.Tok{}, ""
	}
	if text := numberPattern.FindString(s); text != "" {
		n, _ := new(big.Int).SetString(text, 10)
		if !properNumber.MatchString(text) || !n.IsInt64() {
			return api.Tok{}, ""
		}
		return number(int(n.Int64()), 0), text
	}
	text := signPattern.FindString(s)
	return sign(text, 0), text
}

func checkReference(t *testing.T, s string) {
	t.Helper()
	if tokens, at, ok := reference(s); ok {
		checkTokens(t, s, tokens...)
	} else {
		checkFault(t, s, api.ErrLex, at)
	}
}

// P2.2: every text of up to four of the bytes that matter.
func TestTokensOfAllShortTexts(t *testing.T) {
	texts := []string{""}
	for range 4 {
		var longer []string
		for _, s := range texts {
			for _, b := range []string{"i", "f", "0", "7", " ", "\n", "\r", "/", "=", "<", "!", "&", "|", ">", "-", "(", "_", "\xe4"} {
				longer = append(longer, s+b)
				checkReference(t, s+b)
			}
		}
		texts = longer
	}
}

// pieces are parts of texts: all tokens, texts that come near to one, and what separates them.
func pieces() []string {
	near := []string{
		"a", "x1", "Zz9", "abcdefgh", "0", "1", "42", greatest, " ", "  ", "\n", "\r\n", "\t", "// c\n", "//\n", "a", "7", " ",
		"&", "|", ">", "#", "\xe4", "9223372036854775808",
	}
	return slices.Concat(keywords(), operators(), near)
}

// P2.2: texts of many pieces, the same ones in every run.
func TestTokensOfManyPieces(t *testing.T) {
	source := rand.New(rand.NewSource(2))
	all := pieces()
	for range 20000 {
		var b strings.Builder
		for range source.Intn(30) {
			b.WriteString(all[source.Intn(len(all))])
			if source.Intn(3) > 0 {
				b.WriteByte(' ')
			}
		}
		checkReference(t, b.String())
	}
}

// W6, W7: tokens share no memory with the text or with other tokens, and a later call does not change them.
func TestTokensAreNew(t *testing.T) {
	s := "record abc { } 12"
	first, _ := lex.Tokens(s)
	kept := slices.Clone(first)
	second, _ := lex.Tokens(s)
	for i := range second {
		second[i] = api.Tok{Kind: -1}
	}
	_ = append(second[:0], api.Tok{Kind: -2})
	lex.Tokens("x y z #")
	if !slices.Equal(first, kept) {
		t.Errorf("%v became %v", kept, first)
	}
	from := uintptr(unsafe.Pointer(unsafe.StringData(s)))
	for _, token := range first {
		if at := uintptr(unsafe.Pointer(unsafe.StringData(token.Text))); token.Text != "" && at >= from && at < from+uintptr(len(s)) {
			t.Errorf("%q lies within the text", token.Text)
		}
	}
}

// rendered are these tokens as a text, each behind one of the separators; the tokens stand at the places told.
func rendered(tokens []string, separator func(i int) string) (string, []int) {
	var b strings.Builder
	var places []int
	for i, token := range tokens {
		b.WriteString(separator(i))
		places = append(places, b.Len())
		b.WriteString(token)
	}
	b.WriteString(separator(len(tokens)))
	return b.String(), append(places, b.Len())
}

// mayTouch tells whether two tokens without a space between them are still two, by the characters that meet.
func mayTouch(left, right string) bool {
	last, next := left[len(left)-1:], right[:1]
	alphanumeric := letters + digits
	switch {
	case strings.Contains(alphanumeric, last):
		return !strings.Contains(alphanumeric, next)
	case last == "/":
		return next != "/"
	}
	return len(left) == 2 || next != "=" || !strings.Contains("<=!", last)
}

// P2.3: white space between tokens changes only their offsets.
func TestWhiteSpaceChangesOnlyOffsets(t *testing.T) {
	source := rand.New(rand.NewSource(3))
	vocabulary := slices.Concat(keywords(), operators(), []string{"a", "x1", "abcdefgh", "0", "7", greatest})
	spaces := []string{" ", "\n", "\t", "\r", " \n\t\r ", "      "}
	for range 5000 {
		var tokens []string
		for range source.Intn(12) {
			tokens = append(tokens, vocabulary[source.Intn(len(vocabulary))])
		}
		apart := func(int) string { return " " }
		anyhow := func(int) string { return spaces[source.Intn(len(spaces))] }
		tight := func(i int) string {
			if i == 0 || i == len(tokens) || mayTouch(tokens[i-1], tokens[i]) {
				return ""
			}
			return spaces[source.Intn(len(spaces))]
		}
		s, places := rendered(tokens, apart)
		want, fault := lex.Tokens(s)
		if fault != (api.Fault{}) || len(want) != len(tokens)+1 {
			t.Fatalf("Tokens(%q) = %v, %v", s, want, fault)
		}
		checkMoved(t, s, want, places)
		for _, separator := range []func(int) string{anyhow, tight} {
			s, places := rendered(tokens, separator)
			checkMoved(t, s, want, places)
		}
	}
}

// checkMoved wants the tokens of the text to be these, at other places.
func checkMoved(t *testing.T, s string, tokens []api.Tok, places []int) {
	t.Helper()
	moved := slices.Clone(tokens)
	for i := range moved {
		moved[i].At = places[i]
	}
	if got, fault := lex.Tokens(s); fault != (api.Fault{}) || !slices.Equal(got, moved) {
		t.Errorf("Tokens(%q) = %v, %v; want %v", s, got, fault, moved)
	}
}

// P2.3: where the tokens would otherwise be scanned as one, the white space stays.
func TestTokensThatWhiteSpaceSeparates(t *testing.T) {
	checkTokens(t, "a b", name("a", 0), name("b", 2))
	checkTokens(t, "ab", name("ab", 0))
	checkTokens(t, "1 2", number(1, 0), number(2, 2))
	checkTokens(t, "12", number(12, 0))
	checkTokens(t, "a 1", name("a", 0), number(1, 2))
	checkTokens(t, "a1", name("a1", 0))
	checkTokens(t, "1 a", number(1, 0), name("a", 2))
	checkTokens(t, "re turn", name("re", 0), name("turn", 3))
	checkTokens(t, "return", word("return", 0))
	checkTokens(t, "= =", sign("=", 0), sign("=", 2))
	checkTokens(t, "==", sign("==", 0))
	checkFault(t, "& &", api.ErrLex, 0)
	checkFault(t, "| |", api.ErrLex, 0)
}
