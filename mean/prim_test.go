package mean_test

import "testing"

func TestPrimsOfWholeNumbers(t *testing.T) {
	wantMeaning(t,
		meaning{"(def main (- 1 2))", 0, "-1", 3}, meaning{"(def main (* -3 5))", 0, "-15", 3}, meaning{"(def main (div -7 2))", 0, "-3", 3}, meaning{"(def main (mod -7 2))", 0, "-1", 3},
		meaning{"(def main (< 1 2))", 0, "1", 3}, meaning{"(def main (< 2 1))", 0, "0", 3}, meaning{"(def main (< 1 1))", 0, "0", 3}, meaning{"(def main (= 1 1))", 0, "1", 3}, meaning{"(def main (= 1 2))", 0, "0", 3},
		// They go round.
		meaning{"(def main (+ 9223372036854775807 1))", 0, "-9223372036854775808", 3}, meaning{"(def main (- -9223372036854775808 1))", 0, "9223372036854775807", 3}, meaning{"(def main (* 4611686018427387905 4))", 0, "4", 3},
		meaning{"(def main (div -9223372036854775808 -1))", 0, "-9223372036854775808", 3}, meaning{"(def main (mod -9223372036854775808 -1))", 0, "0", 3},
		meaning{"(def main (div 1 0))", 5, "!-2", 3}, meaning{"(def main (mod 0 0))", 5, "!-2", 3})
}

func TestPrimsOfFloats(t *testing.T) {
	wantMeaning(t,
		meaning{"(def main (f+ 1p0 1p-1))", 0, "3p-1", 3}, meaning{"(def main (f- 1p0 3p0))", 0, "-1p1", 3}, meaning{"(def main (f* -1p0 0p0))", 0, "-0p0", 3}, meaning{"(def main (f/ 1p0 1p2))", 0, "1p-2", 3},
		meaning{"(def main (f/ 1p0 0p0))", 0, "inf", 3}, meaning{"(def main (f/ -1p0 0p0))", 0, "-inf", 3}, meaning{"(def main (f/ 0p0 0p0))", 0, "nan", 3}, meaning{"(def main (f- inf inf))", 0, "nan", 3}, meaning{"(def main (f+ nan 1p0))", 0, "nan", 3},
		meaning{"(def main (f< 1p0 3p0))", 0, "1", 3}, meaning{"(def main (f< 3p0 1p0))", 0, "0", 3}, meaning{"(def main (f< nan 0p0))", 0, "0", 3}, meaning{"(def main (f= 0p0 -0p0))", 0, "1", 3}, meaning{"(def main (f= nan nan))", 0, "0", 3}, meaning{"(def main (f= 1p0 1p0))", 0, "1", 3},
		meaning{"(def main (float 3))", 5, "3p0", 2}, meaning{"(def main (float 9007199254740993))", 5, "1p53", 2}, meaning{"(def main (float 0))", 5, "0p0", 2},
		meaning{"(def main (whole -7p-1))", 5, "-3", 2}, meaning{"(def main (whole -1p63))", 5, "-9223372036854775808", 2}, meaning{"(def main (whole -0p0))", 5, "0", 2},
		meaning{"(def main (whole nan))", 5, "!-3", 2}, meaning{"(def main (whole inf))", 5, "!-3", 2}, meaning{"(def main (whole 1p63))", 5, "!-3", 2}, meaning{"(def main (+ (whole nan) (fail 1)))", 5, "!-3", 3})
}

func TestSeq(t *testing.T) {
	wantMeaning(t,
		meaning{"(def main (seq 4 1))", 5, "1", 3}, meaning{"(def main (seq (fail 4) 1))", 5, "!4", 2}, meaning{"(def main (seq 4 (fail 1)))", 5, "!1", 3}, meaning{"(def main (seq 1p0 (fn (x) x)))", 5, "<fn>", 3},
		// The first may be anything, and no more of it is evaluated than that.
		meaning{lists + "(def main (seq N 1))", 5, "1", 3}, meaning{"(def main (seq (fn (x) (fail 1)) 2))", 5, "2", 3}, meaning{lists + "(def main (seq (P (fail 1) 3) 2))", 5, "2", 4}, meaning{"(def f x (fail 1)) (def main (seq f 2))", 5, "2", 3},
		meaning{"(def main (let ((x (+ 1 1))) (seq x x)))", 5, "2", 7})
	wantNothing(t, 5, "(def main (seq main 1))", "(def main (seq 1 main))", "(def main (let ((x (seq x 1))) x))")
}

func TestArgumentsInOrder(t *testing.T) {
	for _, prim := range []string{"+", "-", "*", "div", "mod", "<", "=", "f+", "f-", "f*", "f/", "f<", "f="} {
		wantMeaning(t,
			meaning{"(def main (" + prim + " (fail 1) (fail 2)))", 5, "!1", 2}, meaning{"(def main (" + prim + " (fail 1) main))", 5, "!1", 2},
			// That one is not of its sort is nothing until all are evaluated.
			meaning{"(def main (" + prim + " 1 (fail 2)))", 5, "!2", 3}, meaning{"(def main (" + prim + " 1p0 (fail 2)))", 5, "!2", 3}, meaning{lists + "(def main (" + prim + " N (fail 2)))", 5, "!2", 3}, meaning{"(def main (" + prim + " (fn (x) x) (fail 2)))", 5, "!2", 3})
		wantNothing(t, 5, "(def main ("+prim+" main (fail 1)))")
	}
	wantMeaning(t, meaning{"(def main (float (fail 1)))", 5, "!1", 2}, meaning{"(def main (whole (fail 1)))", 5, "!1", 2}, meaning{"(def main (div (fail 1) 0))", 5, "!1", 2})
}

// No right program has it.
func TestWhatIsNotOfItsSortNeverEnds(t *testing.T) {
	sorts := map[string][]string{"whole": {"1", "0"}, "float": {"1p0", "0p0", "nan"}, "other": {"N", "(P 1 2)", "(fn (x) x)", "P", "(P 1)", "f"}}
	hold := func(prim, sort string) {
		for a, l := range sorts {
			for b, more := range sorts {
				for i := range 6 {
					if a != sort || b != sort {
						wantNothing(t, 5, lists+"(def f x x) (def main ("+prim+" "+l[i%len(l)]+" "+more[(i+i/3)%len(more)]+"))")
					}
				}
			}
		}
	}
	for _, prim := range []string{"+", "-", "*", "div", "mod", "<", "="} {
		hold(prim, "whole")
	}
	for _, prim := range []string{"f+", "f-", "f*", "f/", "f<", "f="} {
		hold(prim, "float")
	}
	for sort, l := range sorts {
		for _, arg := range l {
			if sort != "whole" {
				wantNothing(t, 5, lists+"(def f x x) (def main (float "+arg+"))")
			}
			if sort != "float" {
				wantNothing(t, 5, lists+"(def f x x) (def main (whole "+arg+"))")
			}
			if arg != "(fn (x) x)" && arg != "P" && arg != "(P 1)" && arg != "f" {
				wantNothing(t, 5, lists+"(def main ("+arg+" 1))", lists+"(def main ("+arg+" (fail 1)))", lists+"(def main ((fn (x) x) "+arg+" 1))")
			}
		}
	}
	wantNothing(t, 5, lists+"(def main (C 1 N 2))", lists+"(def main ((C 1 N) 2))", "(def main ((fn (x) x) 1 2))", "(def f x y (+ x y)) (def main (f 1 2 3))", lists+"(def main (P 1 2 (fail 3)))", lists+"(def main (N N))")
}
