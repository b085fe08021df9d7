package sem_test

import (
	"strconv"
	"testing"

	"runrig/api"
)

// P11.1: division and remainder by 0, whatever is divided.
func TestTrapDiv(t *testing.T) {
	checkMain(t, "print 7 / 0;", nil, traps(api.TrapDiv, 4))
	checkMain(t, "print 7 % 0;", nil, traps(api.TrapDiv, 4))
	checkMain(t, "print 0 / 0;", nil, traps(api.TrapDiv, 4))
	checkMain(t, "print 0 % 0;", nil, traps(api.TrapDiv, 4))
	checkMain(t, "print 1; g = 1 / g; print 2;", nil, traps(api.TrapDiv, 6, 1))
	checkMain(t, "if false && 1 / 0 == 1 { print 1; }", nil, traps(api.TrapDiv, 7))
	checkMain(t, "if true || 1 % 0 == 1 { print 1; }", nil, traps(api.TrapDiv, 7))
	checkMain(t, "print (-9223372036854775807 - 1) / -1; print (-9223372036854775807 - 1) % -1;", nil, exits(16, -9223372036854775808, 0))
}

// P11.1: null has neither fields nor items nor a length.
func TestTrapNull(t *testing.T) {
	checkMain(t, "print k.n;", nil, traps(api.TrapNull, 3))
	checkMain(t, "print (null R).n;", nil, traps(api.TrapNull, 3))
	checkMain(t, "k = new R; print k.n; print k.r.n;", nil, traps(api.TrapNull, 9, 0))
	checkMain(t, "k.n = 1;", nil, traps(api.TrapNull, 3))
	checkMain(t, "k.r = k;", nil, traps(api.TrapNull, 3))
	checkMain(t, "print l[0];", nil, traps(api.TrapNull, 4))
	checkMain(t, "print l[-1];", nil, traps(api.TrapNull, 5))
	checkMain(t, "l[0] = 1;", nil, traps(api.TrapNull, 4))
	checkMain(t, "l[51] = 1;", nil, traps(api.TrapNull, 4))
	checkMain(t, "print len(l);", nil, traps(api.TrapNull, 3))
	checkMain(t, "print len(null [[bool]]);", nil, traps(api.TrapNull, 3))
	checkMain(t, "print new [R](1)[0].n;", nil, traps(api.TrapNull, 6))
	checkMain(t, "let a: [[int]] = new [[int]](1); a[0][0] = 1;", nil, traps(api.TrapNull, 9))
}

// P11.1: the items of an array are numbered from 0 to its length, which is excluded.
func TestTrapIndex(t *testing.T) {
	for _, length := range []int{0, 1, 2, 49, 50} {
		for _, index := range []int{-9223372036854775807, -50, -1, 0, 1, 2, 48, 49, 50, 51, 9223372036854775807} {
			s := inMain("l = new [int](read()); let i: int = read(); print l[i]; l[i] = 6; print l[i];")
			put := inMain("l = new [int](read()); l[read()] = 6; print 1;")
			if 0 <= index && index < length {
				checkText(t, s, []int{length, index}, enough, exits(17, 0, 6))
				checkText(t, put, []int{length, index}, enough, exits(9, 1))
			} else {
				checkText(t, s, []int{length, index}, enough, traps(api.TrapIndex, 9))
				checkText(t, put, []int{length, index}, enough, traps(api.TrapIndex, 7))
			}
		}
	}
	checkMain(t, "print new [int](3)[-1];", nil, traps(api.TrapIndex, 6))
	checkMain(t, "print new [int](3)[3];", nil, traps(api.TrapIndex, 5))
}

// P11.1: an array has from 0 to MaxItems items; of any other size there is none.
func TestTrapSize(t *testing.T) {
	for _, size := range []int{0, 1, 49, 50} {
		checkMain(t, "print len(new [R](read()));", []int{size}, exits(4, size))
	}
	for _, size := range []int{-1, -2, -9223372036854775808, 51, 52, 9223372036854775807} {
		checkMain(t, "print len(new [R](read()));", []int{size}, traps(api.TrapSize, 4))
		checkMain(t, "print 1; l = new [int](read()); print 2;", []int{size}, traps(api.TrapSize, 5, 1))
	}
	checkMain(t, "l = new [int](-1);", nil, traps(api.TrapSize, 4))
	checkMain(t, "l = new [int](51);", nil, traps(api.TrapSize, 3))
}

// P11.1: a read without input, of which none is there or all is read.
func TestTrapRead(t *testing.T) {
	checkMain(t, "print read();", nil, traps(api.TrapRead, 2))
	checkMain(t, "print read();", []int{}, traps(api.TrapRead, 2))
	checkMain(t, "print read(); print read();", []int{0}, traps(api.TrapRead, 4, 0))
	checkMain(t, "print read() + read();", []int{4}, traps(api.TrapRead, 4))
	checkMain(t, "while true { say(read()); }", []int{4, 5}, traps(api.TrapRead, 23, 4, 5))
}

// P11.1: there are MaxCalls frames at most, that of main among them; the parameters of one more are still evaluated.
func TestTrapDeep(t *testing.T) {
	down := "func down(n: int) { if 1 < n { down(n - 1); } } func main() { down(read()); print 1; }"
	// Each frame but the last has an if with its condition, a do, a call and a difference.
	checkText(t, down, []int{39}, enough, exits(3+38*9+4+2, 1))
	checkText(t, down, []int{40}, enough, traps(api.TrapDeep, 3+39*9))
	checkText(t, down, []int{41}, enough, traps(api.TrapDeep, 3+39*9))
	checkMain(t, "main();", nil, traps(api.TrapDeep, 80))
	checkText(t, "func main() { say(1); main(); } func say(n: int) { print n; }", nil, enough, traps(api.TrapDeep, 39*7+3, many(39, 1)...))
	// The frame of main may be any of them.
	checkText(t, "global n: int; func f() { n = n + 1; if n < 38 { main(); } } func main() { n = n + 1; f(); print n; }", nil, enough, exits(19*(4+2+4+4+2)+18*2, many(19, 38)...))
	// What has ended is no frame any more.
	checkText(t, "func f() { g(); } func g() { } func main() { let i: int = 0; while i < 100 { f(); i = i + 1; } print i; }", nil, enough, exits(2+100*12+4+2, 100))
	checkText(t, "func f(): int { while true { return 1; } } func main() { let i: int = 0; while i < 100 { i = i + f(); } print i; }", nil, enough, exits(2+100*12+4+2, 100))
}

// many is a list of one number alone.
func many(count, n int) []int {
	var list []int
	for range count {
		list = append(list, n)
	}
	return list
}

// part is an expression or a statement, what it prints until it ends, with which trap, and with how many steps.
type part struct {
	text  string
	code  int
	steps int
	out   []int
}

// trappingInts are expressions of the type int, each with a trap of its own.
func trappingInts() []part {
	return []part{
		{"1 / 0", api.TrapDiv, 3, nil}, {"k.n", api.TrapNull, 2, nil}, {"new [int](1)[1]", api.TrapIndex, 4, nil}, {"new [int](-1)[0]", api.TrapSize, 4, nil}, {"read()", api.TrapRead, 1, nil}, {"say(5) / none()", api.TrapDiv, 8, []int{5}},
	}
}

// trappingBools, trappingRecords and trappingArrays are the same of other types.
func trappingBools() []part {
	var list []part
	for _, p := range trappingInts() {
		list = append(list, part{p.text + " < 1", p.code, p.steps + 1, p.out})
	}
	return list
}

func trappingRecords() []part {
	var list []part
	for _, p := range trappingInts() {
		list = append(list, part{"new [R](" + p.text + ")[0]", p.code, p.steps + 2, p.out})
	}
	return append(list, part{"k.r", api.TrapNull, 2, nil}, part{"new [R](2)[2]", api.TrapIndex, 4, nil})
}

func trappingArrays() []part {
	var list []part
	for _, p := range trappingInts() {
		list = append(list, part{"new [int](" + p.text + ")", p.code, p.steps + 1, p.out})
	}
	return append(list, part{"new [int](51)", api.TrapSize, 2, nil}, part{"k.a", api.TrapNull, 2, nil})
}

// checkOrder wants the first part to trap, wherever two stand one after the other; the steps ahead of it are counted.
func checkOrder(t *testing.T, before string, ahead int, first part, between string, second part, after string) {
	t.Helper()
	body := before + "(" + first.text + ")" + between + "(" + second.text + ")" + after
	checkMain(t, body, nil, traps(first.code, ahead+first.steps, first.out...))
}

// P11.1: of the two operands of an operator, the first one is evaluated first.
func TestOrderOfOperands(t *testing.T) {
	for _, first := range trappingInts() {
		for _, second := range trappingInts() {
			for _, operator := range []string{"+", "-", "*", "/", "%"} {
				checkOrder(t, "print ", 2, first, operator, second, ";")
			}
			for _, operator := range []string{"<", "<=", "==", "!="} {
				checkOrder(t, "if ", 2, first, operator, second, "{ print 1; }")
			}
		}
	}
	for _, first := range trappingBools() {
		for _, second := range trappingBools() {
			for _, operator := range []string{"==", "!=", "&&", "||"} {
				checkOrder(t, "while ", 2, first, operator, second, "{ print 1; }")
			}
		}
	}
	for _, first := range trappingRecords() {
		for _, second := range trappingRecords() {
			checkOrder(t, "h = ", 2, first, "==", second, ";")
		}
	}
}

// P11.1: the array, then the index; and both ahead of the item itself.
func TestOrderOfItem(t *testing.T) {
	for _, index := range trappingInts() {
		for _, array := range trappingArrays() {
			body := "print (" + array.text + ")[" + index.text + "];"
			checkMain(t, body, nil, traps(array.code, 2+array.steps, array.out...))
		}
		checkMain(t, "print l["+index.text+"];", nil, traps(index.code, 3+index.steps, index.out...))
		checkMain(t, "l = new [int](0); print l["+index.text+"];", nil, traps(index.code, 6+index.steps, index.out...))
	}
}

// P11.1: the Kids of a call in order, ahead of the frame; and the Kid of an EMake and of an ELen ahead of it.
func TestOrderOfKids(t *testing.T) {
	for _, first := range trappingInts() {
		for _, second := range trappingInts() {
			checkOrder(t, "print sub(", 2, first, ",", second, ");")
			checkMain(t, "print sub(say(3), sub("+first.text+","+second.text+"));", nil, traps(first.code, 9+first.steps, append([]int{3}, first.out...)...))
			checkMain(t, "print sub(sub("+first.text+", 1),"+second.text+");", nil, traps(first.code, 3+first.steps, first.out...))
		}
	}
	// In the last frame, where a call traps, but not ahead of its Kids; the last one of the list calls functions itself.
	for _, first := range trappingInts()[:5] {
		deep := "func f(n: int) { while n < 39 { f(n + 1); } f(" + first.text + "); } "
		checkText(t, context+deep+"func main() { f(1); }", nil, enough, traps(first.code, 3+38*9+4+2+first.steps, first.out...))
	}
	for _, first := range trappingInts() {
		checkMain(t, "l = new [int]("+first.text+");", nil, traps(first.code, 2+first.steps, first.out...))
	}
	for _, array := range trappingArrays() {
		checkMain(t, "print len("+array.text+");", nil, traps(array.code, 2+array.steps, array.out...))
	}
}

// P11.1: where a field is set: the record, then the value, and then the field itself, for which no step is taken.
func TestOrderOfSettingField(t *testing.T) {
	for _, value := range trappingInts() {
		for _, record := range trappingRecords() {
			checkOrder(t, "", 1, record, ".n = ", value, ";")
		}
		checkMain(t, "k.n = "+value.text+";", nil, traps(value.code, 2+value.steps, value.out...))
		checkMain(t, "me(null R).n = "+value.text+";", nil, traps(value.code, 5+value.steps, value.out...))
	}
	checkMain(t, "k = new R; k.n = say(4) + k.n; k.r.n = say(5);", nil, traps(api.TrapNull, 22, 4, 5))
	// The value may change which record the variable has, but not the one that is set.
	checkText(t, "record R { n: int; r: R; } global k: R; func f(): int { k = k.r; return 7; } func main() { k = new R; k.r = new R; let r: R = k; k.n = f(); print r.n; print k.n; }", nil, enough, exits(21, 7, 0))
	checkText(t, "record R { n: int; } global k: R; func f(): int { k = null R; return 7; } func main() { k = new R; let r: R = k; k.n = f(); print r.n; }", nil, enough, exits(14, 7))
}

// P11.1: where an item is set: the array, then the index, then the value, and then the item itself, for which no step is taken.
func TestOrderOfSettingItem(t *testing.T) {
	for _, first := range trappingInts() {
		for _, second := range trappingInts() {
			checkMain(t, "l["+first.text+"] = "+second.text+";", nil, traps(first.code, 2+first.steps, first.out...))
			for _, array := range trappingArrays() {
				checkMain(t, "("+array.text+")["+first.text+"] = "+second.text+";", nil, traps(array.code, 1+array.steps, array.out...))
			}
		}
		for _, array := range []string{"l", "null [int]"} {
			checkMain(t, array+"[1] = "+first.text+";", nil, traps(first.code, 3+first.steps, first.out...))
		}
		for _, index := range []int{0, 1, 2} {
			checkMain(t, "l = new [int](1); l["+strconv.Itoa(index)+"] = "+first.text+";", nil, traps(first.code, 6+first.steps, first.out...))
		}
	}
	checkMain(t, "l = new [int](2); l[say(1)] = say(7); print l[1]; l[say(2)] = say(8); print 9;", nil, traps(api.TrapIndex, 35, 1, 7, 7, 2, 8))
	// The value may change which array the variable has, and the index, but not the item that is set.
	checkText(t, "global l: [int]; global i: int; func f(): int { l = new [int](1); i = 0; return 7; } func main() { l = new [int](2); i = 1; let a: [int] = l; l[i] = f(); print a[0]; print a[1]; print l[0]; }", nil, enough, exits(30, 0, 7, 0))
}

// P11.1: each kind of statement begins with its expression, and the statements behind a trap are not executed.
func TestOrderOfStatements(t *testing.T) {
	for _, first := range trappingInts() {
		for _, ahead := range []struct {
			text  string
			steps int
		}{
			{"let x: int = #; say(9);", 1}, {"g = #; say(9);", 1}, {"print #; say(9);", 1}, {"say(#); say(9);", 2}, {"if # == 1 { say(9); } else { say(9); }", 2}, {"while # == 1 { say(9); }", 2}, {"var x: int; x = #; say(9);", 1},
		} {
			body := ""
			for _, letter := range ahead.text {
				if letter == '#' {
					body += "(" + first.text + ")"
				} else {
					body += string(letter)
				}
			}
			checkMain(t, body, nil, traps(first.code, ahead.steps+first.steps, first.out...))
			checkMain(t, "print 3; if true { while true { "+body+" } }", nil, traps(first.code, 6+ahead.steps+first.steps, append([]int{3}, first.out...)...))
		}
		value := context + "func f(): int { return " + first.text + "; } "
		checkText(t, value+"func main() { say(f()); print 9; }", nil, enough, traps(first.code, 4+first.steps, first.out...))
	}
}

// P11.1: parts without traps are evaluated in order too, as their output tells.
func TestOrderOfOutput(t *testing.T) {
	checkMain(t, "print say(1) - (say(2) - say(3)) * say(4);", nil, exits(28, 1, 2, 3, 4, 5))
	checkMain(t, "print sub(say(1), sub(say(2), say(3)));", nil, exits(29, 1, 2, 3, 2))
	checkMain(t, "print new [int](say(3))[say(2)];", nil, exits(15, 3, 2, 0))
	checkMain(t, "new [int](say(3))[say(2)] = say(1);", nil, exits(20, 3, 2, 1))
	checkMain(t, "print g + bump() + g; } func bump(): int { g = g + 1; return 10;", nil, exits(12, 11))
	checkMain(t, "print read() - read() * read();", []int{20, 3, 4}, exits(6, 8))
}
