package obs_test

import (
	"math"
	"regexp"
	"strings"
	"testing"
	"unsafe"

	"gristmill/api"
	"gristmill/flo"
	"gristmill/obs"
	"gristmill/texts"
	"gristmill/tree"

	whole "gristmill/num"
)

// read is the observation of the text.
func read(t *testing.T, s string) api.Obs {
	t.Helper()
	o, err := obs.Parse(s)
	if err != nil {
		t.Fatalf("%.300q: %v", s, err)
	}
	return o
}

// wantParse holds that each text is that of an observation that may be, or that none is.
func wantParse(t *testing.T, is bool, l ...string) {
	t.Helper()
	for _, s := range l {
		o, err := obs.Parse(s)
		switch {
		case !is && (err != api.ErrForm || !obs.Same(o, api.Obs{})):
			t.Errorf("%.300q: %.300q, %v", s, obs.Text(o), err)
		case is && (err != nil || !obs.Valid(o) || obs.Text(o) != s):
			t.Errorf("%.300q: %.300q, %v, %v", s, obs.Text(o), obs.Valid(o), err)
		}
	}
}

func TestText(t *testing.T) {
	for _, x := range []struct {
		o    api.Obs
		want string
	}{
		{num(0), "0"}, {num(5), "5"}, {num(-5), "-5"}, {num(math.MaxInt64), "9223372036854775807"}, {num(math.MinInt64), "-9223372036854775808"},
		{float(0), "0p0"}, {float(1 << 63), "-0p0"}, {float(math.Float64bits(1.5)), "3p-1"}, {float(math.Float64bits(-2)), "-1p1"}, {float(flo.NaN), "nan"}, {float(math.Float64bits(math.Inf(1))), "inf"}, {float(math.Float64bits(math.Inf(-1))), "-inf"}, {float(1), "1p-1074"},
		{fn(), "<fn>"}, {cut(), "_"}, {fault(0), "!0"}, {fault(7), "!7"}, {fault(api.NoDiv), "!-2"}, {fault(math.MaxInt64), "!9223372036854775807"}, {fault(math.MinInt64), "!-9223372036854775808"},
		{con("Nil"), "Nil"}, {con("T_1", []api.Obs{}...), "T_1"}, {con("C", num(1)), "(C 1)"}, {con("C", num(1), con("Nil")), "(C 1 Nil)"}, {con("C", con("D")), "(C D)"}, {con("C", con("D", con("E"))), "(C (D E))"},
		{con("P", con("P", cut(), fn()), float(math.Float64bits(3))), "(P (P _ <fn>) 3p0)"}, {con("P", con("P", num(-1)), con("P", num(2)), con("P", con("P", num(3), num(4)), cut())), "(P (P -1) (P 2) (P (P 3 4) _))"},
	} {
		if s := obs.Text(x.o); s != x.want {
			t.Errorf("Text of %v: %q; want %q", x.o, s, x.want)
		}
		if o, err := obs.Parse(x.want); !obs.Same(o, x.o) || err != nil {
			t.Errorf("Parse of %q: %v, %v; want %v", x.want, o, err, x.o)
		}
	}
}

func TestParse(t *testing.T) {
	wantParse(t, true, "N", "(C 1)", "(C (D (E (F 1))))", "(C N N N)", "(C (D 1) (D 2))", "(C (D (E 1) 2) 3 (E 4))", "(C nan inf -inf _ <fn> -1 -1p1 Nan Inf)")
	wantParse(t, false,
		"", " ", "(", ")", "()", "( )", "(())", "(C)", "(C )", "( C)", "(C  1)", "( C 1)", "(C 1 )", " 1", "1 ", " N", "N ", "\t1", "1\n", "(C\t1)", "(C\n1)", "(C 1)\n", "(C 1) ", " (C 1)", "1;", "(C 1);", "(C 1;2)",
		"(C 1", "C 1)", "C 1", "(C 1))", "((C 1)", "((C 1))", "((C) 1)", "((C 1) 2)", "(C(D 1))", "(C (D 1)2)", "(C 1(D 2))", "(C 1)(D 2)", "(C 1) (D 2)", "(C 1) 2", "1 2", "_ _", "N N", "1(", "1)", "N)", "(N", "((N", "(C 1) )", "(C (1))", "(C ((D 1)))", "(C ())",
		"(1 2)", "(1)", "(_ 1)", "(<fn> 1)", "(!1 2)", "(!1)", "(_)", "(<fn>)", "(c 1)", "(nan 1)", "(1p0 1)", "( 1)", "(+ 1)",
		"(C !1)", "(C 1 !-2)", "(C (D !1) 1)", "(C ! 1)", "!", "!x", "!N", "!_", "!!1", "! 1", "!01", "!-0", "!1p0", "!nan", "!+1", "!1 ", "!9223372036854775808", "-!1", "(!1", "!1)",
		"c", "nil", "fn", "<fn", "fn>", "<fn>>", "<<fn>", "<Fn>", "< fn>", "<>", "__", "-", "-_", "+1", "01", "-0", "00", "-01", "1_0", "0x1", "1.5", "1e3", "9223372036854775808", "-9223372036854775809", "(C 9223372036854775808)",
		"2p0", "1p", "p1", "0p1", "1p0p0", "1p-1075", "1p1024", "NaN)", "-nan", "+inf", "3P0", "(C 2p0)",
		"T.", "T-", "T\x00", "\u00c9", "T\u00e9", "T\u00a0", "(T\u00a01)", "\xff", "T<fn>", "N_!", strings.Repeat("N", 41), "("+strings.Repeat("N", 41)+" 1)", "(C "+strings.Repeat("N", 41)+")")
	wantParse(t, true, strings.Repeat("N", 40), "("+strings.Repeat("N", 40)+" "+strings.Repeat("N", 40)+")")
}

func TestParseAtTheLimits(t *testing.T) {
	nested := func(n int, s string) string { return strings.Repeat("(C ", n) + s + strings.Repeat(")", n) }
	for _, s := range []string{"1", "-3p-1", "_", "<fn>"} {
		wantParse(t, true, nested(api.MaxDepth, s))
		wantParse(t, false, nested(api.MaxDepth+1, s), nested(api.MaxDepth, "(C "+s+" 1)"), nested(api.MaxDepth, "N"), "(D 1 "+nested(api.MaxDepth, s)+" 2)", nested(api.MaxDepth, s)+")", nested(api.MaxDepth, s)[1:])
	}
	wantParse(t, true, nested(api.MaxDepth-1, "N"), "(C"+strings.Repeat(" 1", 60)+")", "(C"+strings.Repeat(" (D 1)", 60)+")")
	wantParse(t, false, "(C"+strings.Repeat(" 1", 61)+")", "(C"+strings.Repeat(" (D 1)", 61)+")", "(C 1 (C"+strings.Repeat(" N", 61)+"))")
	// As many as there may be, of names as long as there may be: longer than a program may be.
	long := obs.Text(many(api.MaxSize, con(strings.Repeat("N", 40))))
	if len(long) < 12*api.MaxText {
		t.Fatal(len(long))
	}
	wantParse(t, true, long)
	wantParse(t, false, long[1:], long[:len(long)-1], long+" ", long+")", strings.Replace(long, " ", "  ", 1), strings.Replace(long, ")", " )", 1), strings.Replace(long, "))", "N))", 1), strings.Replace(long, "))", " 1))", 1))
	one := obs.Text(many(api.MaxSize-1, num(1)))
	last := strings.LastIndex(one, " 1")
	wantParse(t, true, one, one[:last]+" 1"+one[last:])
	wantParse(t, false, one[:last]+" 1 1"+one[last:])
	// Longer than that of any observation that may be.
	for _, unit := range []string{"1", "N", "(", "(C ", "(C 1) ", "1 ", ")", " ", "C 1 ", "!", "_", "\x00", "(C 1 ", "-", "p"} {
		s := strings.Repeat(unit, 1<<20)
		wantParse(t, false, s, "(C "+s, "(C "+s+")", "(C"+s+")", "(C 1"+s+")", "!"+s, "("+s+" 1)", "(C 1)"+s)
	}
}

// Texts as the chapter writes them, word by word.
var (
	numbers = regexp.MustCompile(`^(0|-?[1-9][0-9]*)$`)
	floats  = regexp.MustCompile(`^(nan|-?(inf|0p0|[0-9]*[13579]p(0|-?[1-9][0-9]*)))$`)
	names   = regexp.MustCompile(`^[A-Z][A-Za-z0-9_]{0,39}$`)
)

// modelParse is the observation of the text by what the brackets are to package tree; false, if it may not be, or has another text. It is of texts that are neither long nor deep.
func modelParse(s string) (o api.Obs, ok bool) {
	if rest, ok := strings.CutPrefix(s, "!"); ok {
		o, ok := modelWord(rest)
		return fault(o.N), ok && o.Kind == api.SeenInt
	}
	nodes, err := tree.Parse(s)
	if err != nil || len(nodes) != 1 || tree.Text(nodes...) != s {
		return api.Obs{}, false
	}
	return modelNode(nodes[0])
}

func modelNode(n tree.Node) (o api.Obs, ok bool) {
	if n.Word != "" {
		return modelWord(n.Word)
	}
	if len(n.L) < 2 || len(n.L) > 61 || !names.MatchString(n.L[0].Word) {
		return api.Obs{}, false
	}
	o = con(n.L[0].Word)
	for _, part := range n.L[1:] {
		p, ok := modelNode(part)
		if !ok {
			return api.Obs{}, false
		}
		o.L = append(o.L, p)
	}
	return o, true
}

func modelWord(s string) (api.Obs, bool) {
	switch {
	case s == "<fn>":
		return fn(), true
	case s == "_":
		return cut(), true
	case names.MatchString(s):
		return con(s), true
	case numbers.MatchString(s):
		n, err := whole.Parse(s)
		return num(n), err == nil
	case floats.MatchString(s):
		bits, err := flo.Parse(s)
		return float(bits), err == nil
	}
	return api.Obs{}, false
}

// counts counts the texts that were those of an observation, and the others.
type counts struct{ right, wrong int }

func (c *counts) hold(t *testing.T, s string) {
	t.Helper()
	want, is := modelParse(s)
	wantParse(t, is, s)
	if !is {
		c.wrong++
		return
	}
	c.right++
	if got, _ := obs.Parse(s); !obs.Same(got, want) {
		t.Errorf("%q: %v; want %v", s, got, want)
	}
}

func TestParseOfAllShortTexts(t *testing.T) {
	var c counts
	for _, s := range texts.All("( )C1", 7) {
		c.hold(t, s)
	}
	for _, s := range texts.All("<fn>_!-1p", 5) {
		c.hold(t, s)
		c.hold(t, "(C "+s+")")
	}
	for _, s := range texts.All("( )C\n;", 5) {
		c.hold(t, s)
		c.hold(t, "(C "+s+" 1)")
	}
	if c.right < 200 || c.wrong < 200000 {
		t.Error(c)
	}
}

// Right texts with a piece left out, put in, or put in place of another one.
func TestParseOfAlteredTexts(t *testing.T) {
	var c counts
	pieces := []string{"", "(", ")", " ", "C", "c", "1", "-", "0", "p", "_", "!", "<fn>", ";", "\t", "(C ", " N", ") (", " 1)", "(D 1)", "-3p-1", "nan", "()", "(E)"}
	for _, s := range []string{"(C (D 1 E) 1p-1 _)", "(P (P _ <fn>) (P -12 (Q N_1 (R inf))) -3p0)", "(C 1)", "!-7", "Nil", "-10"} {
		for _, altered := range texts.Altered(s, 4, pieces...) {
			c.hold(t, altered)
		}
	}
	if c.right < 700 || c.wrong < 5000 {
		t.Error(c)
	}
}

// An observation that is kept does not keep the text that it was read from.
func TestParseKeepsNothingOfItsText(t *testing.T) {
	s := "(Cons 1 (Pair Nil Nothing) Nil)"
	from := uintptr(unsafe.Pointer(unsafe.StringData(s)))
	for _, l := range all(read(t, s), 0, map[int][]api.Obs{}) {
		for _, o := range l {
			place := uintptr(unsafe.Pointer(unsafe.StringData(o.Name)))
			if o.Name != "" && from <= place && place < from+uintptr(len(s)) {
				t.Errorf("%q lies in the text", o.Name)
			}
		}
	}
}
