package num_test

import (
	"math"
	"math/big"
	"strings"
	"testing"

	"runrig/api"
	"runrig/num"
)

// edges are integers around every place where 64-bit arithmetic can go wrong: the ends of the range, 0, and the
// halves and roots at which sums and products begin to wrap around.
func edges() []int {
	return []int{
		math.MinInt, math.MinInt + 1, math.MinInt + 2, math.MinInt / 2, math.MinInt/2 - 1, math.MinInt/2 + 1,
		-1 << 53, -1<<32 - 1, -1 << 32, -1<<31 - 1, -1 << 31, -3037000500, -1000000007, -10, -7, -3, -2, -1,
		0, 1, 2, 3, 7, 10, 1000000007, 3037000499, 3037000500, 1<<31 - 1, 1 << 31, 1<<32 - 1, 1 << 32, 1<<32 + 1, 1 << 53,
		1<<62 - 1, 1 << 62, 1<<62 + 1, math.MaxInt - 2, math.MaxInt - 1, math.MaxInt,
	}
}

func forEachPair(check func(a, b int)) {
	for _, a := range edges() {
		for _, b := range edges() {
			check(a, b)
		}
	}
}

func bigOf(n int) *big.Int { return big.NewInt(int64(n)) }

// wrapped is n modulo 2^64, from -2^63 to 2^63 - 1, computed without arithmetic of 64 bits.
func wrapped(n *big.Int) int {
	modulus := new(big.Int).Lsh(big.NewInt(1), 64)
	half := new(big.Int).Lsh(big.NewInt(1), 63)
	r := new(big.Int).Mod(n, modulus)
	if r.Cmp(half) >= 0 {
		r.Sub(r, modulus)
	}
	return int(r.Int64())
}

func oneIf(holds bool) int {
	if holds {
		return 1
	}
	return 0
}

func checkBin(t *testing.T, op, a, b, want, trap int) {
	t.Helper()
	if got, gotTrap := num.Bin(op, a, b); got != want || gotTrap != trap {
		t.Errorf("Bin(%d, %d, %d) = %d, %d; want %d, %d", op, a, b, got, gotTrap, want, trap)
	}
}

// P1.1: sums, differences and products, also those that wrap around.
func TestBinArithmeticIsModulo2To64(t *testing.T) {
	forEachPair(func(a, b int) {
		x, y := bigOf(a), bigOf(b)
		checkBin(t, api.EAdd, a, b, wrapped(new(big.Int).Add(x, y)), 0)
		checkBin(t, api.ESub, a, b, wrapped(new(big.Int).Sub(x, y)), 0)
		checkBin(t, api.EMul, a, b, wrapped(new(big.Int).Mul(x, y)), 0)
	})
}

// P1.1: sums and products at the ends of the range, as literals.
func TestBinWrapsAroundAtTheEnds(t *testing.T) {
	checkBin(t, api.EAdd, math.MaxInt, 1, math.MinInt, 0)
	checkBin(t, api.EAdd, math.MinInt, -1, math.MaxInt, 0)
	checkBin(t, api.EAdd, math.MaxInt, math.MaxInt, -2, 0)
	checkBin(t, api.EAdd, math.MinInt, math.MinInt, 0, 0)
	checkBin(t, api.ESub, math.MinInt, 1, math.MaxInt, 0)
	checkBin(t, api.ESub, 0, math.MinInt, math.MinInt, 0)
	checkBin(t, api.EMul, math.MinInt, -1, math.MinInt, 0)
	checkBin(t, api.EMul, math.MaxInt, 2, -2, 0)
	checkBin(t, api.EMul, math.MaxInt, math.MaxInt, 1, 0)
	checkBin(t, api.EMul, 1<<32, 1<<32, 0, 0)
	checkBin(t, api.EMul, 1<<32, 1<<31, math.MinInt, 0)
}

// P1.1: the quotient is truncated towards 0, and the remainder goes with it.
func TestBinDividesTowardsZero(t *testing.T) {
	forEachPair(func(a, b int) {
		if b == 0 {
			return
		}
		q, r := new(big.Int).QuoRem(bigOf(a), bigOf(b), new(big.Int))
		checkBin(t, api.EDiv, a, b, wrapped(q), 0)
		checkBin(t, api.ERem, a, b, wrapped(r), 0)
	})
	checkBin(t, api.EDiv, -7, 2, -3, 0)
	checkBin(t, api.EDiv, 7, -2, -3, 0)
	checkBin(t, api.EDiv, -7, -2, 3, 0)
	checkBin(t, api.ERem, -7, 2, -1, 0)
	checkBin(t, api.ERem, 7, -2, 1, 0)
	checkBin(t, api.ERem, -7, -2, -1, 0)
}

// P1.1: the only quotient that is beyond the range.
func TestBinDividesTheLeastByMinusOne(t *testing.T) {
	checkBin(t, api.EDiv, math.MinInt, -1, math.MinInt, 0)
	checkBin(t, api.ERem, math.MinInt, -1, 0, 0)
}

// P1.1: a divisor of 0 traps, whatever the dividend, and no other operator traps on it.
func TestBinTrapsOnlyOnADivisorOfZero(t *testing.T) {
	for _, a := range edges() {
		checkBin(t, api.EDiv, a, 0, 0, api.TrapDiv)
		checkBin(t, api.ERem, a, 0, 0, api.TrapDiv)
		for op := -1; op <= 30; op++ {
			if op == api.EDiv || op == api.ERem {
				continue
			}
			if _, trap := num.Bin(op, a, 0); trap != 0 {
				t.Errorf("Bin(%d, %d, 0) traps with %d", op, a, trap)
			}
		}
	}
}

// P1.1: comparisons return 1 or 0.
func TestBinCompares(t *testing.T) {
	forEachPair(func(a, b int) {
		order := bigOf(a).Cmp(bigOf(b))
		checkBin(t, api.ELess, a, b, oneIf(order < 0), 0)
		checkBin(t, api.ELeq, a, b, oneIf(order <= 0), 0)
		checkBin(t, api.ESame, a, b, oneIf(order == 0), 0)
		checkBin(t, api.EDiff, a, b, oneIf(order != 0), 0)
	})
}

// P1.1: EAnd and EOr ask whether operands are 0, not for their bits.
func TestBinAndOr(t *testing.T) {
	forEachPair(func(a, b int) {
		zeros := oneIf(a == 0) + oneIf(b == 0)
		checkBin(t, api.EAnd, a, b, oneIf(zeros == 0), 0)
		checkBin(t, api.EOr, a, b, oneIf(zeros < 2), 0)
	})
	checkBin(t, api.EAnd, 1, 2, 1, 0)
	checkBin(t, api.EOr, 2, 4, 1, 0)
}

// P1.1: what is no binary operator comes to 0 without a trap.
func TestBinOfAnyOtherOperator(t *testing.T) {
	others := []int{math.MinInt, -1 << 32, math.MaxInt, 1<<32 + api.EAdd, 1<<32 + api.EDiv, 256 + api.EDiv, -api.EAdd}
	for op := -300; op < api.EAdd; op++ {
		others = append(others, op)
	}
	for op := api.EOr + 1; op < 300; op++ {
		others = append(others, op)
	}
	for _, op := range others {
		for _, pair := range [][2]int{{5, 6}, {5, 0}, {0, 5}, {0, 0}, {-1, -1}, {math.MinInt, -1}, {math.MaxInt, math.MinInt}} {
			checkBin(t, op, pair[0], pair[1], 0, 0)
		}
	}
}

func checkUn(t *testing.T, op, a, want int) {
	t.Helper()
	if got := num.Un(op, a); got != want {
		t.Errorf("Un(%d, %d) = %d; want %d", op, a, got, want)
	}
}

// P1.1: ENeg is 0 - a modulo 2^64, ENot is 1 for 0 alone.
func TestUn(t *testing.T) {
	for _, a := range edges() {
		checkUn(t, api.ENeg, a, wrapped(new(big.Int).Neg(bigOf(a))))
		checkUn(t, api.ENot, a, oneIf(a == 0))
	}
	checkUn(t, api.ENeg, math.MinInt, math.MinInt)
	checkUn(t, api.ENeg, math.MaxInt, math.MinInt+1)
	checkUn(t, api.ENot, 0, 1)
	checkUn(t, api.ENot, 1, 0)
	checkUn(t, api.ENot, -1, 0)
}

// P1.1: what is no unary operator comes to 0.
func TestUnOfAnyOtherOperator(t *testing.T) {
	others := []int{math.MinInt, math.MaxInt, 1<<32 + api.ENeg, 256 + api.ENot, -api.ENeg}
	for op := -300; op < 300; op++ {
		if op != api.ENeg && op != api.ENot {
			others = append(others, op)
		}
	}
	for _, op := range others {
		for _, a := range []int{0, 1, -1, 7, math.MinInt, math.MaxInt} {
			checkUn(t, op, a, 0)
		}
	}
}

// P1.2: the digits of ordinary numbers and of those at the ends.
func TestText(t *testing.T) {
	for _, x := range []struct {
		n    int
		want string
	}{
		{0, "0"}, {7, "7"}, {-7, "-7"}, {10, "10"}, {-10, "-10"}, {99, "99"}, {100, "100"}, {-1234567890, "-1234567890"},
		{math.MaxInt, "9223372036854775807"}, {math.MaxInt - 1, "9223372036854775806"},
		{math.MinInt, "-9223372036854775808"}, {math.MinInt + 1, "-9223372036854775807"},
	} {
		if got := num.Text(x.n); got != x.want {
			t.Errorf("Text(%d) = %q; want %q", x.n, got, x.want)
		}
	}
	for _, n := range edges() {
		if got, want := num.Text(n), bigOf(n).String(); got != want {
			t.Errorf("Text = %q; want %q", got, want)
		}
	}
}

func checkParse(t *testing.T, s string, want int, ok bool) {
	t.Helper()
	if got, gotOK := num.Parse(s); got != want || gotOK != ok {
		t.Errorf("Parse(%.40q) = %d, %t; want %d, %t", s, got, gotOK, want, ok)
	}
}

// P1.2: the texts of ordinary numbers and of those at the ends.
func TestParse(t *testing.T) {
	checkParse(t, "0", 0, true)
	checkParse(t, "5", 5, true)
	checkParse(t, "-5", -5, true)
	checkParse(t, "120", 120, true)
	checkParse(t, "-1000000", -1000000, true)
	checkParse(t, "9223372036854775807", math.MaxInt, true)
	checkParse(t, "-9223372036854775808", math.MinInt, true)
}

// P1.2: a text that no integer has gives 0 and false.
func TestParseRejectsWhatIsNoText(t *testing.T) {
	for _, s := range []string{
		"", "-", "--", "--1", "-0", "-00", "00", "01", "-01", "007", "+", "+0", "+1", "-+1", "+-1",
		" ", " 1", "1 ", "1 2", "- 1", "\t1", "1\n", "1\r\n", "1\x00", "\x001", "\x00",
		"1_0", "0x1", "0b1", "0o7", "1e3", "1.0", "1.", ".5", "1,000", "a", "1a", "a1", "NaN", "inf", "1-", "1-1",
		"\u0661", "\uff11", "\u22121", "\xff", "1\xff",
		"9223372036854775808", "-9223372036854775809", "9223372036854775810", "10000000000000000000", "-10000000000000000000",
		"18446744073709551615", "18446744073709551616", "18446744073709551617", "-18446744073709551616",
		"09223372036854775807", "-09223372036854775808", "+9223372036854775807", "00000000000000000001", "000000000000000000001",
		strings.Repeat("0", 1<<20), strings.Repeat("9", 1<<20), "-" + strings.Repeat("1", 1<<20), strings.Repeat("-", 1<<20),
		"1" + strings.Repeat(" ", 1<<20), strings.Repeat("0", 1<<20) + "1", strings.Repeat("\xff", 1<<20),
	} {
		checkParse(t, s, 0, false)
	}
}

// canonical tells by the rule of digits alone whether a short text is that of an integer, and of which one.
func canonical(s string) (int, bool) {
	digits := strings.TrimPrefix(s, "-")
	if digits == "" || digits[0] == '0' && s != "0" {
		return 0, false
	}
	n := 0
	for i := range len(digits) {
		if digits[i] < '0' || digits[i] > '9' {
			return 0, false
		}
		n = n*10 + int(digits[i]-'0')
	}
	if digits != s {
		n = -n
	}
	return n, true
}

// P1.2: every text of up to two bytes, and every text of up to five of the signs that matter.
func TestParseOfAllShortTexts(t *testing.T) {
	check := func(s string) {
		want, ok := canonical(s)
		checkParse(t, s, want, ok)
	}
	for i := range 256 {
		check(string([]byte{byte(i)}))
		for j := range 256 {
			check(string([]byte{byte(i), byte(j)}))
		}
	}
	texts := []string{""}
	for range 5 {
		var longer []string
		for _, s := range texts {
			for _, sign := range []string{"0", "1", "9", "-", "+", "_", " "} {
				longer = append(longer, s+sign)
				check(s + sign)
			}
		}
		texts = longer
	}
}

// P1.3: Parse gives back what Text has told.
func TestParseOfTextIsTheNumber(t *testing.T) {
	check := func(n int) { checkParse(t, num.Text(n), n, true) }
	for _, n := range edges() {
		check(n)
	}
	for n := -2000; n <= 2000; n++ {
		check(n)
	}
	for power := 1; power < math.MaxInt/10; power *= 10 {
		for _, n := range []int{power - 1, power, power + 1, 10 * power} {
			check(n)
			check(-n)
		}
	}
}

// P1.3: modulo 2^64, a dividend is the quotient times the divisor plus the remainder; the operators themselves do
// the sum.
func TestDividendIsQuotientTimesDivisorPlusRemainder(t *testing.T) {
	forEachPair(func(a, b int) {
		if b == 0 {
			return
		}
		q, _ := num.Bin(api.EDiv, a, b)
		r, _ := num.Bin(api.ERem, a, b)
		product, _ := num.Bin(api.EMul, q, b)
		if sum, _ := num.Bin(api.EAdd, product, r); sum != a {
			t.Errorf("%d / %d = %d and %d %% %d = %d, which come to %d", a, b, q, a, b, r, sum)
		}
	})
}
