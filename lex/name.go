package lex

// maxName is how many bytes a name has at most.
const maxName = 40

// Name is whether s can name a function, a variable or a parameter.
func Name(s string) bool {
	return hasBytesOfName(s) && isSmall(s[0]) && !isReserved(s)
}

// Upper is whether s can name a constructor or a type.
func Upper(s string) bool {
	return hasBytesOfName(s) && isGreat(s[0])
}

// hasBytesOfName is what both kinds of names have in common: their bytes and how many there are; it is false of the empty text.
func hasBytesOfName(s string) bool {
	if len(s) == 0 || len(s) > maxName {
		return false
	}
	for i := range len(s) {
		if !isSmall(s[i]) && !isGreat(s[i]) && !isDigit(s[i]) && s[i] != '_' {
			return false
		}
	}
	return true
}

// isReserved is whether s begins as a name does, but is a word of the language, a prim or a float.
func isReserved(s string) bool {
	switch s {
	case "fn", "let", "case", "fail", "data", "def":
		return true
	case "div", "mod", "float", "whole", "seq":
		return true
	case "inf", "nan":
		return true
	}
	return false
}

func isSmall(c byte) bool { return 'a' <= c && c <= 'z' }

func isGreat(c byte) bool { return 'A' <= c && c <= 'Z' }

func isDigit(c byte) bool { return '0' <= c && c <= '9' }
