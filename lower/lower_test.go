package lower_test

import (
	"fmt"
	"slices"
	"testing"
)

// P7.1, G1: the example of the chapter.
func TestExample(t *testing.T) {
	expectPlaces(t, "parse { let x = Bin[A0:u8]; Dif C(x == E1:u8) { x = F2:u8; } Gemit a = x; Haccept; }", `
		0: 0 const.8 0 A; 1 byte.8 0 B; 2 const.8 1 E; 3 eq.1 1 2 C; branch 3 to 1 else 2(1) D
		1: 4 const.8 2 F; jump 2(4) D
		2: 5 param.8 D; 6 emit 5 a G; accept H
	`)
}

// P7.1, G1: numbers, len and variables.
func TestSimpleExpressions(t *testing.T) {
	expectStatements(t, "let a = 0:u1;", "0 const.1 0; ")
	expectStatements(t, "let a = 5:u8; let b = 18446744073709551615:u64;", "0 const.8 5; 1 const.64 18446744073709551615; ")
	expectStatements(t, "let a = len; let b = a; let c = b; emit x = c; emit y = a;", "0 len.8; 1 emit 0 x; 2 emit 0 y; ")
	expectStatements(t, "let a = len; let b = len; emit x = a;", "0 len.8; 1 len.8; 2 emit 0 x; ")
	expectStatements(t, "let a = in[1:u64];", "0 const.64 1; 1 byte.8 0; ")
}

// P7.1, G1: each sign, with both arguments from the left to the right.
func TestSigns(t *testing.T) {
	for sign, want := range map[string]string{
		"+": "2 add.8 1 0; 3 emit 2 x; ", "-": "2 sub.8 1 0; 3 emit 2 x; ", "*": "2 mul.8 1 0; 3 emit 2 x; ", "/": "2 div.8 1 0; 3 emit 2 x; ", "%": "2 rem.8 1 0; 3 emit 2 x; ",
		"&": "2 and.8 1 0; 3 emit 2 x; ", "|": "2 or.8 1 0; 3 emit 2 x; ", "^": "2 xor.8 1 0; 3 emit 2 x; ", "<<": "2 shl.8 1 0; 3 emit 2 x; ", ">>": "2 shr.8 1 0; 3 emit 2 x; ",
		"==": "2 eq.1 1 0; 3 emit 2 x; ", "<": "2 lt.1 1 0; 3 emit 2 x; ", "slt": "2 slt.1 1 0; 3 emit 2 x; ", ">": "2 lt.1 0 1; 3 emit 2 x; ",
		"!=": "2 eq.1 1 0; 3 not.1 2; 4 emit 3 x; ", "<=": "2 lt.1 0 1; 3 not.1 2; 4 emit 3 x; ", ">=": "2 lt.1 1 0; 3 not.1 2; 4 emit 3 x; ",
	} {
		expectStatements(t, "let b = len; let a = 1:u8; emit x = (a "+sign+" b);", "0 len.8; 1 const.8 1; "+want)
	}
	expectStatements(t, "let a = ((1:u33 - 2:u33) <= (3:u33 << 4:u33));", "0 const.33 1; 1 const.33 2; 2 sub.33 0 1; 3 const.33 3; 4 const.33 4; 5 shl.33 3 4; 6 lt.1 5 2; 7 not.1 6; ")
	expectStatements(t, "let a = ((1:u64 != 2:u64) ^ (3:u2 slt 1:u2));", "0 const.64 1; 1 const.64 2; 2 eq.1 0 1; 3 not.1 2; 4 const.2 3; 5 const.2 1; 6 slt.1 4 5; 7 xor.1 3 6; ")
}

// P7.1, G1: ~, and other widths.
func TestWidths(t *testing.T) {
	expectStatements(t, "let a = ~len; let b = ~~a;", "0 len.8; 1 not.8 0; 2 not.8 1; 3 not.8 2; ")
	expectStatements(t, "let a = ~1:u64;", "0 const.64 1; 1 not.64 0; ")
	expectStatements(t, "let a = u9(len);", "0 len.8; 1 zext.9 0; ")
	expectStatements(t, "let a = u64(1:u1);", "0 const.1 1; 1 zext.64 0; ")
	expectStatements(t, "let a = u7(len);", "0 len.8; 1 part.7 0 0; ")
	expectStatements(t, "let a = u1(1:u64);", "0 const.64 1; 1 part.1 0 0; ")
	expectStatements(t, "let a = u8(len); emit x = a;", "0 len.8; 1 emit 0 x; ")
	expectStatements(t, "let a = sext u9(len);", "0 len.8; 1 sext.9 0; ")
	expectStatements(t, "let a = sext u64(1:u1);", "0 const.1 1; 1 sext.64 0; ")
	expectStatements(t, "let a = sext u8(len); emit x = a;", "0 len.8; 1 emit 0 x; ")
	expectStatements(t, "let a = u8(sext u16(u4(len)));", "0 len.8; 1 part.4 0 0; 2 sext.16 1; 3 part.8 2 0; ")
}

// P7.1, G1: arrays and structs, of which s is the one with the number 1.
func TestObjects(t *testing.T) {
	expectStatements(t, "new p: u16[4:u3];", "0 const.3 4; 1 new*16 0; ")
	expectStatements(t, "new p: u1[len]; new q: u64[p[0:u1]];", "0 len.8; 1 new*1 0; 2 const.1 0; 3 load.1 1 2; 4 new*64 3; ")
	expectStatements(t, "make p: s; make q: t; make r: w;", "0 make*66; 1 make*65; 2 make*67; ")
	expectStatements(t, "new p: u16[len]; let a = p[1:u9]; emit x = a;", "0 len.8; 1 new*16 0; 2 const.9 1; 3 load.16 1 2; 4 emit 3 x; ")
	expectStatements(t, "new p: u16[len]; p[1:u9] = 7:u16; p[len] = p[2:u9];", "0 len.8; 1 new*16 0; 2 const.9 1; 3 const.16 7; 4 put 1 2 3; 5 len.8; 6 const.9 2; 7 load.16 1 6; 8 put 1 5 7; ")
	expectStatements(t, "make p: s; let a = p.a; let b = p.b; let c = p.c;", "0 make*66; 1 const.8 0; 2 load.8 0 1; 3 const.8 1; 4 load.16 0 3; 5 const.8 2; 6 load.8 0 5; ")
	expectStatements(t, "make p: s; p.b = 9:u16; p.a = len; p.c = p.a;", "0 make*66; 1 const.8 1; 2 const.16 9; 3 put 0 1 2; 4 const.8 0; 5 len.8; 6 put 0 4 5; 7 const.8 2; 8 const.8 0; 9 load.8 0 8; 10 put 0 7 9; ")
	expectStatements(t, "make q: w; q.x = 3:u64; make p: t; p.a = (q.x == q.x);", "0 make*67; 1 const.8 0; 2 const.64 3; 3 put 0 1 2; 4 make*65; 5 const.8 0; 6 const.8 0; 7 load.64 0 6; 8 const.8 0; 9 load.64 0 8; 10 eq.1 7 9; 11 put 4 5 10; ")
	expectStatements(t, "make p: s; new q: u8[len]; free p; free q; free p;", "0 make*66; 1 len.8; 2 new*8 1; 3 free 0; 4 free 2; 5 free 0; ")
	expectStatements(t, "make p: s; make q: s; same p = q; free p; free q; same q = q; p.a = q.c;", "0 make*66; 1 make*66; 2 free 1; 3 free 1; 4 const.8 0; 5 const.8 2; 6 load.8 1 5; 7 put 1 4 6; ")
	expectStatements(t, "new p: u8[len]; new q: u8[len]; same q = p; q[len] = 1:u8; emit x = p[len];", "0 len.8; 1 new*8 0; 2 len.8; 3 new*8 2; 4 len.8; 5 const.8 1; 6 put 1 4 5; 7 len.8; 8 load.8 1 7; 9 emit 8 x; ")
	expectStatements(t, "new p: u8[len]; same p = p; free p;", "0 len.8; 1 new*8 0; 2 free 1; ")
}

// P7.1, G1: let and set.
func TestVariables(t *testing.T) {
	expectStatements(t, "let a = len; a = (a + a); let b = a; a = 1:u8; emit x = a; emit x = b;", "0 len.8; 1 add.8 0 0; 2 const.8 1; 3 emit 2 x; 4 emit 1 x; ")
	expectStatements(t, "let a = len; let b = 1:u8; a = b; b = 2:u8; emit x = a; emit y = b;", "0 len.8; 1 const.8 1; 2 const.8 2; 3 emit 1 x; 4 emit 2 y; ")
	expectStatements(t, "let a = len; a = a; emit x = a;", "0 len.8; 1 emit 0 x; ")
}

// P7.1, G1: names, of the emits that are written, each one once.
func TestEmits(t *testing.T) {
	expectStatements(t, "let a = len; emit b = a; emit a = 1:u64; emit b = a; emit c = a; emit a = a;", "0 len.8; 1 emit 0 b; 2 const.64 1; 3 emit 2 a; 4 emit 0 b; 5 emit 0 c; 6 emit 0 a; ")
	for source, want := range map[string][]string{
		"parse { }": nil,
		"parse { emit z = len; emit y = len; emit z = len; emit x = len; }": {"z", "y", "x"},
		// the emits of a call in the expression are written before
		"func f() u8 { emit in1 = len; return len; } parse { emit a = f(); emit b = f(); }": {"in1", "a", "b"},
		// of a function that is called nowhere there are none
		"func f() u8 { emit in1 = len; return len; } parse { emit a = len; }": {"a"},
		// in the order in which they are written, not in which they are run
		"parse { while (len == 1:u8) { emit c = len; } if 1:u1 { emit b = len; } else { emit a = len; } emit d = len; }": {"c", "b", "a", "d"},
		// none of those that are not written
		"parse { if 1:u1 { accept; emit a = len; } else { reject 1; emit b = len; } emit c = len; }": nil,
		"func f() u8 { accept; emit a = len; return len; } parse { emit b = f(); emit c = len; }":    nil,
	} {
		if got := codeOfSource(t, source).Names; !slices.Equal(got, want) {
			t.Errorf("%s\n%v; want %v", source, got, want)
		}
	}
}

// P7.1, G1: the widths of the fields of all structs, in order.
func TestStructs(t *testing.T) {
	many := ""
	var all [][]int
	for i := range 8 {
		many += fmt.Sprintf("struct s%d { b: u%d, a: u%d } func f%d() u8 { return len; } ", i, 64-i, i+1, i)
		all = append(all, []int{64 - i, i + 1})
	}
	for source, want := range map[string][][]int{
		"parse { }": nil,
		"struct z { a: u8, b: u1, c: u64 } func f() u8 { return len; } struct a { z: u3 } parse { }":             {{8, 1, 64}, {3}},
		"struct s { a: u1, b: u2, c: u3, d: u4, e: u5, f: u6, g: u7, h: u8 } parse { make p: s; p.h = 1:u8; }":   {{1, 2, 3, 4, 5, 6, 7, 8}},
		many + "parse { make p: s7; p.a = 1:u8; make q: s0; q.a = 1:u1; }":                                       all,
		many + "parse { make p: s3; let a = p.b; if (a == 1:u61) { make q: s5; q.a = 1:u6; } else { free p; } }": all,
	} {
		got := codeOfSource(t, source).Structs
		if !slices.EqualFunc(got, want, slices.Equal[[]int]) {
			t.Errorf("%s\n%v; want %v", source, got, want)
		}
		expectModel(t, treeOf(t, source))
	}
}

// P7.1, G1: ends, and what is not written behind them.
func TestEnds(t *testing.T) {
	expectCode(t, "parse { }", "0: reject 0")
	expectCode(t, "parse { accept; }", "0: accept")
	expectCode(t, "parse { reject 0; }", "0: reject 0")
	expectCode(t, "parse { reject 255; }", "0: reject 255")
	expectCode(t, "parse { let a = len; }", "0: 0 len.8; reject 0")
	expectCode(t, "parse { let a = len; accept; reject 1; let b = len; emit a = b; a = b; if 1:u1 { } while 1:u1 { } accept; }", "0: 0 len.8; accept")
	expectCode(t, "parse { reject 7; accept; }", "0: reject 7")
}

// P7.1, G1: if without else.
func TestIfs(t *testing.T) {
	expectCode(t, "parse { if 1:u1 { } accept; }", `
		0: 0 const.1 1; branch 0 to 1 else 2
		1: jump 2
		2: accept
	`)
	expectCode(t, "parse { if 1:u1 { accept; } }", `
		0: 0 const.1 1; branch 0 to 1 else 2
		1: accept
		2: reject 0
	`)
	// parameters for the variables that are not the same on both edges, in the order of their declarations
	expectCode(t, "parse { let a = 1:u8; let b = 2:u16; let c = 3:u8; let d = 4:u3; if 1:u1 { d = 0:u3; let e = 5:u8; c = e; a = a; b = 2:u16; } emit a = a; emit b = b; emit c = c; emit d = d; }", `
		0: 0 const.8 1; 1 const.16 2; 2 const.8 3; 3 const.3 4; 4 const.1 1; branch 4 to 1 else 2(1 2 3)
		1: 5 const.3 0; 6 const.8 5; 7 const.16 2; jump 2(7 6 5)
		2: 8 param.16; 9 param.8; 10 param.3; 11 emit 0 a; 12 emit 8 b; 13 emit 9 c; 14 emit 10 d; reject 0
	`)
}

// P7.1, G1: if with else.
func TestIfsWithElse(t *testing.T) {
	expectCode(t, "parse { if 1:u1 { } else { } accept; }", `
		0: 0 const.1 1; branch 0 to 1 else 2
		1: jump 3
		2: jump 3
		3: accept
	`)
	// a join with one edge has no parameters
	expectCode(t, "parse { let a = 1:u8; if 1:u1 { accept; } else { a = 2:u8; } emit a = a; }", `
		0: 0 const.8 1; 1 const.1 1; branch 1 to 1 else 2
		1: accept
		2: 2 const.8 2; jump 3
		3: 3 emit 2 a; reject 0
	`)
	expectCode(t, "parse { let a = 1:u8; if 1:u1 { a = 2:u8; } else { a = 3:u8; reject 9; } emit a = a; }", `
		0: 0 const.8 1; 1 const.1 1; branch 1 to 1 else 2
		1: 2 const.8 2; jump 3
		2: 3 const.8 3; reject 9
		3: 4 emit 2 a; reject 0
	`)
	// and there is none without edges
	expectCode(t, "parse { if 1:u1 { accept; } else { reject 9; } emit a = len; accept; }", `
		0: 0 const.1 1; branch 0 to 1 else 2
		1: accept
		2: reject 9
	`)
	// the same value on both edges, which is not that before; and values that were there before
	expectCode(t, "parse { let a = 1:u8; let b = 2:u8; let c = 3:u8; let d = b; if 1:u1 { a = b; c = a; } else { a = b; b = c; d = d; } emit a = a; emit b = b; emit c = c; emit d = d; }", `
		0: 0 const.8 1; 1 const.8 2; 2 const.8 3; 3 const.1 1; branch 3 to 1 else 2
		1: jump 3(1 1)
		2: jump 3(2 2)
		3: 4 param.8; 5 param.8; 6 emit 1 a; 7 emit 4 b; 8 emit 5 c; 9 emit 1 d; reject 0
	`)
	// pointers
	expectCode(t, "struct s { a: u8 } parse { new p: u9[len]; new q: u9[len]; make r: s; make o: s; if 1:u1 { same p = q; } else { same o = r; } free p; free o; free q; }", `
		0: 0 len.8; 1 new*9 0; 2 len.8; 3 new*9 2; 4 make*65; 5 make*65; 6 const.1 1; branch 6 to 1 else 2
		1: jump 3(3 5)
		2: jump 3(1 4)
		3: 7 param*9; 8 param*65; 9 free 7; 10 free 8; 11 free 3; reject 0
	`)
	// within each other, in both blocks
	expectCode(t, "parse { let a = len; if (a == a) { if (a < a) { a = 1:u8; } a = (a + a); } else { if (a slt a) { accept; } else { let b = 2:u8; a = b; } } emit a = a; }", `
		0: 0 len.8; 1 eq.1 0 0; branch 1 to 1 else 4
		1: 2 lt.1 0 0; branch 2 to 2 else 3(0)
		2: 3 const.8 1; jump 3(3)
		3: 4 param.8; 5 add.8 4 4; jump 8(5)
		4: 6 slt.1 0 0; branch 6 to 5 else 6
		5: accept
		6: 7 const.8 2; jump 7
		7: jump 8(7)
		8: 8 param.8; 9 emit 8 a; reject 0
	`)
	// what is declared in a block is not passed on
	expectCode(t, "parse { let a = 1:u8; if 1:u1 { let b = 2:u8; if 1:u1 { b = 3:u8; a = b; } } else { let c = 4:u8; c = 5:u8; } let d = a; }", `
		0: 0 const.8 1; 1 const.1 1; branch 1 to 1 else 4
		1: 2 const.8 2; 3 const.1 1; branch 3 to 2 else 3(0 2)
		2: 4 const.8 3; jump 3(4 4)
		3: 5 param.8; 6 param.8; jump 5(5)
		4: 7 const.8 4; 8 const.8 5; jump 5(0)
		5: 9 param.8; reject 0
	`)
}

// P7.1, G1
func TestWhiles(t *testing.T) {
	expectCode(t, "parse { while 1:u1 { } accept; }", `
		0: jump 1
		1: 0 const.1 1; branch 0 to 2 else 3
		2: jump 1
		3: accept
	`)
	// parameters for the variables for which there is a set or a same, in the order of their declarations
	expectCode(t, "parse { let a = 1:u8; let b = 2:u16; let c = 3:u8; let d = 4:u3; while (a < c) { d = 5:u3; let e = b; e = 6:u16; a = (a + c); b = b; } emit a = a; emit b = b; emit c = c; emit d = d; }", `
		0: 0 const.8 1; 1 const.16 2; 2 const.8 3; 3 const.3 4; jump 1(0 1 3)
		1: 4 param.8; 5 param.16; 6 param.3; 7 lt.1 4 2; branch 7 to 2 else 3
		2: 8 const.3 5; 9 const.16 6; 10 add.8 4 2; jump 1(10 5 8)
		3: 11 emit 4 a; 12 emit 5 b; 13 emit 2 c; 14 emit 6 d; reject 0
	`)
	expectCode(t, "struct s { a: u8 } parse { new p: u9[len]; new q: u9[len]; make r: s; make o: s; while 1:u1 { same p = q; same o = r; free q; } free p; free o; }", `
		0: 0 len.8; 1 new*9 0; 2 len.8; 3 new*9 2; 4 make*65; 5 make*65; jump 1(1 5)
		1: 6 param*9; 7 param*65; 8 const.1 1; branch 8 to 2 else 3
		2: 9 free 3; jump 1(3 4)
		3: 10 free 6; 11 free 7; reject 0
	`)
	// sets that are not written count, too, and those in blocks of the block; puts and emits do not
	expectCode(t, "parse { let a = 1:u8; let b = 2:u8; let c = 3:u8; new p: u8[c]; while 1:u1 { if 1:u1 { a = 4:u8; } else { accept; b = 5:u8; } p[c] = c; emit c = c; } emit b = b; }", `
		0: 0 const.8 1; 1 const.8 2; 2 const.8 3; 3 new*8 2; jump 1(0 1)
		1: 4 param.8; 5 param.8; 6 const.1 1; branch 6 to 2 else 6
		2: 7 const.1 1; branch 7 to 3 else 4
		3: 8 const.8 4; jump 5
		4: accept
		5: 9 put 3 2 2; 10 emit 2 c; jump 1(8 5)
		6: 11 emit 5 b; reject 0
	`)
	// no jump back
	expectCode(t, "parse { let a = 1:u8; while (a == a) { a = 2:u8; accept; } emit a = a; }", `
		0: 0 const.8 1; jump 1(0)
		1: 1 param.8; 2 eq.1 1 1; branch 2 to 2 else 3
		2: 3 const.8 2; accept
		3: 4 emit 1 a; reject 0
	`)
	// behind it variables have the values of the header
	expectCode(t, "parse { let a = 1:u8; while (a == 9:u8) { a = 2:u8; } a = (a + a); while 0:u1 { a = 3:u8; let b = a; b = a; } emit a = a; }", `
		0: 0 const.8 1; jump 1(0)
		1: 1 param.8; 2 const.8 9; 3 eq.1 1 2; branch 3 to 2 else 3
		2: 4 const.8 2; jump 1(4)
		3: 5 add.8 1 1; jump 4(5)
		4: 6 param.8; 7 const.1 0; branch 7 to 5 else 6
		5: 8 const.8 3; jump 4(8)
		6: 9 emit 6 a; reject 0
	`)
	// within each other
	expectCode(t, "parse { let a = 1:u8; let b = 2:u8; while (a < b) { b = a; while (b < a) { b = 3:u8; } let c = b; while 1:u1 { c = a; } } emit a = a; emit b = b; }", `
		0: 0 const.8 1; 1 const.8 2; jump 1(1)
		1: 2 param.8; 3 lt.1 0 2; branch 3 to 2 else 9
		2: jump 3(0)
		3: 4 param.8; 5 lt.1 4 0; branch 5 to 4 else 5
		4: 6 const.8 3; jump 3(6)
		5: jump 6(4)
		6: 7 param.8; 8 const.1 1; branch 8 to 7 else 8
		7: jump 6(0)
		8: jump 1(4)
		9: 9 emit 0 a; 10 emit 2 b; reject 0
	`)
	// in an if
	expectCode(t, "parse { let a = 1:u8; if 1:u1 { while 1:u1 { a = 2:u8; } } else { while 0:u1 { } } emit a = a; }", `
		0: 0 const.8 1; 1 const.1 1; branch 1 to 1 else 5
		1: jump 2(0)
		2: 2 param.8; 3 const.1 1; branch 3 to 3 else 4
		3: 4 const.8 2; jump 2(4)
		4: jump 9(2)
		5: jump 6
		6: 5 const.1 0; branch 5 to 7 else 8
		7: jump 6
		8: jump 9(0)
		9: 6 param.8; 7 emit 6 a; reject 0
	`)
}

// P7.1, G1
func TestCalls(t *testing.T) {
	expectCode(t, "func f() u8 { return 7:u8; } parse { emit x = f(); emit y = f(); }", "0: 0 const.8 7; 1 emit 0 x; 2 const.8 7; 3 emit 2 y; reject 0")
	// parameters have the values of the arguments, and they and the variables of a function are its own
	expectCode(t, "func f(a: u8, b: u8) u8 { let c = (b - a); a = 1:u8; b = c; return (a + b); } parse { let a = len; let c = 2:u8; let b = f(c, a); emit a = a; emit b = b; emit c = c; let d = f(a, f(b, c)); }", `
		0: 0 len.8; 1 const.8 2; 2 sub.8 0 1; 3 const.8 1; 4 add.8 3 2; 5 emit 0 a; 6 emit 4 b; 7 emit 1 c; 8 sub.8 1 4; 9 const.8 1; 10 add.8 9 8; 11 sub.8 10 0; 12 const.8 1; 13 add.8 12 11; reject 0
	`)
	// arguments first, from the left to the right, before the statements
	expectCode(t, "func f(a: u8, b: u9, c: u1, d: u8) u9 { emit x = d; return b; } parse { emit y = f(1:u8, 2:u9, (3:u8 > 4:u8), 5:u8); }", `
		0: 0 const.8 1; 1 const.9 2; 2 const.8 3; 3 const.8 4; 4 lt.1 3 2; 5 const.8 5; 6 emit 5 x; 7 emit 1 y; reject 0
	`)
	expectCode(t, "func f(a: u8) u8 { return a; } parse { let a = len; emit x = f(f(f(a))); }", "0: 0 len.8; 1 emit 0 x; reject 0")
	// calls in functions
	expectCode(t, "func f(a: u8) u8 { return (a * a); } func g(a: u8) u8 { let b = f(a); return (b + f(b)); } parse { emit x = g(len); }", `
		0: 0 len.8; 1 mul.8 0 0; 2 mul.8 1 1; 3 add.8 1 2; 4 emit 3 x; reject 0
	`)
	// the function before the place, among other items
	expectCode(t, "func g() u8 { return 1:u8; } struct s { g: u8 } func f() u8 { make g: s; g.g = g(); return g.g; } parse { let s = f(); emit x = s; }", `
		0: 0 make*65; 1 const.8 0; 2 const.8 1; 3 put 0 1 2; 4 const.8 0; 5 load.8 0 4; 6 emit 5 x; reject 0
	`)
	// blocks in functions: variables of the caller are not passed on
	expectCode(t, "func f(a: u8) u8 { let b = a; if (a == 1:u8) { b = 2:u8; } return b; } parse { let a = len; let b = 3:u8; b = (b + f(a)); emit a = a; emit b = b; }", `
		0: 0 len.8; 1 const.8 3; 2 const.8 1; 3 eq.1 0 2; branch 3 to 1 else 2(0)
		1: 4 const.8 2; jump 2(4)
		2: 5 param.8; 6 add.8 1 5; 7 emit 0 a; 8 emit 6 b; reject 0
	`)
	// the sets of a function do not count for a while around its call, nor for an if
	expectCode(t, "func f(a: u8) u8 { let b = len; b = a; while 1:u1 { a = b; } return b; } parse { let a = 1:u8; let b = 2:u8; while (f(a) == b) { let c = f(b); } }", `
		0: 0 const.8 1; 1 const.8 2; jump 1
		1: 2 len.8; jump 2(0)
		2: 3 param.8; 4 const.1 1; branch 4 to 3 else 4
		3: jump 2(0)
		4: 5 eq.1 0 1; branch 5 to 5 else 9
		5: 6 len.8; jump 6(1)
		6: 7 param.8; 8 const.1 1; branch 8 to 7 else 8
		7: jump 6(1)
		8: jump 1
		9: reject 0
	`)
	expectCode(t, "func f(a: u1) u1 { if a { a = 0:u1; } return a; } parse { let a = 1:u1; if f(a) { emit x = a; } emit y = a; }", `
		0: 0 const.1 1; branch 0 to 1 else 2(0)
		1: 1 const.1 0; jump 2(1)
		2: 2 param.1; branch 2 to 3 else 4
		3: 3 emit 0 x; jump 4
		4: 4 emit 0 y; reject 0
	`)
}

// P7.1, G1: calls of functions at whose end no block is open.
func TestCallsThatEnd(t *testing.T) {
	const f = "func f() u8 { accept; let a = 1:u8; emit z = a; return a; } func g(a: u8, b: u8) u8 { emit y = a; return b; } "
	for _, statement := range []string{
		"let b = f();", "emit x = f();", "emit x = ~f();", "emit x = (f() + len);", "emit x = in[f()];", "emit x = u9(f());", "emit x = sext u9(f());", "emit x = u7(f());", "emit x = u8(f());", "emit x = (f() <= len);", "emit x = g(f(), len);", "emit x = g(f(), f());", "new p: u8[f()];",
		"if (f() == 1:u8) { emit x = len; accept; } else { reject 3; }", "if (f() == 1:u8) { }", "emit x = f(); let b = 1:u8; emit w = b; accept;",
	} {
		expectCode(t, f+"parse { "+statement+" reject 9; let c = len; emit v = c; }", "0: accept")
	}
	expectCode(t, f+"parse { emit x = (len + f()); }", "0: 0 len.8; accept")
	expectCode(t, f+"parse { emit x = g(len, f()); }", "0: 0 len.8; accept")
	expectCode(t, f+"parse { new p: u8[len]; p[len] = f(); }", "0: 0 len.8; 1 new*8 0; 2 len.8; accept")
	expectCode(t, f+"parse { new p: u8[len]; p[f()] = len; }", "0: 0 len.8; 1 new*8 0; accept")
	expectCode(t, f+"parse { new p: u8[len]; emit x = p[f()]; }", "0: 0 len.8; 1 new*8 0; accept")
	expectCode(t, "struct s { b: u8, a: u8 } "+f+"parse { make p: s; p.a = f(); p.b = len; }", "0: 0 make*65; 1 const.8 1; accept")
	expectCode(t, f+"func h(a: u8) u8 { let b = f(); return (a + b); } parse { emit x = h(len); }", "0: 0 len.8; accept")
	expectCode(t, f+"func h(a: u8) u8 { return f(); } parse { let a = len; a = h(a); emit x = a; }", "0: 0 len.8; accept")
	expectCode(t, "func f() u1 { reject 4; return 1:u1; } parse { let a = len; while f() { a = 2:u8; emit x = a; } emit x = a; }", `
		0: 0 len.8; jump 1(0)
		1: 1 param.8; reject 4
	`)
	expectCode(t, "func f() u1 { reject 4; return 1:u1; } parse { let a = len; if (a == a) { if f() { a = 2:u8; } else { a = 3:u8; } } else { a = 4:u8; } emit x = a; }", `
		0: 0 len.8; 1 eq.1 0 0; branch 1 to 1 else 2
		1: reject 4
		2: 2 const.8 4; jump 3
		3: 3 emit 2 x; reject 0
	`)
	// functions that end in one of their blocks alone, or in all
	expectCode(t, "func f(a: u8) u8 { if (a < 3:u8) { accept; } else { a = 4:u8; } return a; } parse { let a = len; let b = (a + f(a)); emit x = b; }", `
		0: 0 len.8; 1 const.8 3; 2 lt.1 0 1; branch 2 to 1 else 2
		1: accept
		2: 3 const.8 4; jump 3
		3: 4 add.8 0 3; 5 emit 4 x; reject 0
	`)
	expectCode(t, "func f(a: u8) u8 { if (a < 3:u8) { accept; } else { reject 4; } let b = a; return b; } parse { let a = len; let b = (a + f(a)); emit x = b; }", `
		0: 0 len.8; 1 const.8 3; 2 lt.1 0 1; branch 2 to 1 else 2
		1: accept
		2: reject 4
	`)
	expectCode(t, "func f(a: u8) u8 { while (a < 3:u8) { accept; } return a; } parse { emit x = f(len); }", `
		0: 0 len.8; jump 1
		1: 1 const.8 3; 2 lt.1 0 1; branch 2 to 2 else 3
		2: accept
		3: 3 emit 0 x; reject 0
	`)
	// the variables of the caller are those that they were
	expectCode(t, "func f(b: u8) u8 { if (b < 3:u8) { let a = 1:u8; accept; } return b; } parse { let a = len; if (a == a) { let c = f(a); a = c; } let d = a; emit x = d; }", `
		0: 0 len.8; 1 eq.1 0 0; branch 1 to 1 else 4
		1: 2 const.8 3; 3 lt.1 0 2; branch 3 to 2 else 3
		2: 4 const.8 1; accept
		3: jump 4
		4: 5 emit 0 x; reject 0
	`)
}

// P7.1, G1: the places of instructions and ends.
func TestPlaces(t *testing.T) {
	expectPlaces(t, " # nothing\n parse Z{ }", "0: reject 0 Z")
	expectPlaces(t, "parse { let a = Alen; Breject 3; }", "0: 0 len.8 A; reject 3 B")
	expectPlaces(t, "parse { let a = Alen; let b = a; a = b; Bemit x = a; Caccept; reject 1; }", "0: 0 len.8 A; 1 emit 0 x B; accept C")
	expectPlaces(t, "parse Z{ let a = A~Bin[C1:u8]; let b = Du1(Eu9(a)); let c = Fsext u3(b); let d = sext u3(c); }",
		"0: 0 const.8 1 C; 1 byte.8 0 B; 2 not.8 1 A; 3 zext.9 2 E; 4 part.1 3 0 D; 5 sext.3 4 F; reject 0 Z")
	for sign, want := range map[string]string{"+": "2 add.8 0 1 A", "==": "2 eq.1 0 1 A", "!=": "2 eq.1 0 1 A; 3 not.1 2 A", ">": "2 lt.1 1 0 A", "<=": "2 lt.1 1 0 A; 3 not.1 2 A", ">=": "2 lt.1 0 1 A; 3 not.1 2 A"} {
		expectPlaces(t, "parse { let a = A(Blen "+sign+" C1:u8); Zaccept; }", "0: 0 len.8 B; 1 const.8 1 C; "+want+"; accept Z")
	}
	expectPlaces(t, "struct s { a: u8 } parse { Anew p: u16[B1:u8]; Cp[Dlen] = Ep[F2:u8]; Gmake q: s; Hq.a = Iq.a; same p = p; Jfree p; Zaccept; }", `
		0: 0 const.8 1 B; 1 new*16 0 A; 2 len.8 D; 3 const.8 2 F; 4 load.16 1 3 E; 5 put 1 2 4 C; 6 make*65 G; 7 const.8 0 H; 8 const.8 0 I; 9 load.8 6 8 I; 10 put 6 7 9 H; 11 free 1 J; accept Z
	`)
	expectPlaces(t, "func f(a: u8) u8 { let b = A(a + a); return B~b; } parse { Demit x = Cf(Elen); Zaccept; }", "0: 0 len.8 E; 1 add.8 0 0 A; 2 not.8 1 B; 3 emit 2 x D; accept Z")
	// parameters, branches and jumps
	expectPlaces(t, "parse Z{ let a = Alen; Bif C(a == a) { a = D1:u8; } let b = a; Eif F(b == b) { a = G2:u8; } else { b = H3:u8; } }", `
		0: 0 len.8 A; 1 eq.1 0 0 C; branch 1 to 1 else 2(0) B
		1: 2 const.8 1 D; jump 2(2) B
		2: 3 param.8 B; 4 eq.1 3 3 F; branch 4 to 3 else 4 E
		3: 5 const.8 2 G; jump 5(5 3) E
		4: 6 const.8 3 H; jump 5(3 6) E
		5: 7 param.8 E; 8 param.8 E; reject 0 Z
	`)
	expectPlaces(t, "parse { let a = Alen; Bwhile C(a == a) { a = D1:u8; } Zreject 2; }", `
		0: 0 len.8 A; jump 1(0) B
		1: 1 param.8 B; 2 eq.1 1 1 C; branch 2 to 2 else 3 B
		2: 3 const.8 1 D; jump 1(3) B
		3: reject 2 Z
	`)
	expectPlaces(t, "func f(a: u8) u8 { Aif B(a == a) { Caccept; } return a; } parse Z{ let b = f(Dlen); }", `
		0: 0 len.8 D; 1 eq.1 0 0 B; branch 1 to 1 else 2 A
		1: accept C
		2: reject 0 Z
	`)
}
