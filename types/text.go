package types

import (
	"strings"

	"gristmill/api"
)

// Text is the type's name, or, in brackets, its name and its Args.
func Text(t api.Type) string {
	var b strings.Builder
	write(&b, t)
	return b.String()
}

func write(b *strings.Builder, t api.Type) {
	if len(t.Args) == 0 {
		b.WriteString(t.Name)
		return
	}
	b.WriteString("(" + t.Name)
	for _, arg := range t.Args {
		b.WriteByte(' ')
		write(b, arg)
	}
	b.WriteByte(')')
}

// Parse is the type of which s is the Text; ErrForm, if there is none that may be.
func Parse(s string) (api.Type, error) {
	r := reader{rest: s, left: api.MaxSize}
	t, ok := r.read(api.MaxDeep)
	if !ok || r.rest != "" {
		return api.Type{}, api.ErrForm
	}
	return t, nil
}

// reader reads a type as Text writes it. (Package tree would take other texts too, and none of more than MaxText bytes, which a type that may be can have.)
type reader struct {
	rest string
	left int // how many types may come
}

// read is the type that the rest begins with, where so many levels are left; false, if it begins with none that may be.
func (r *reader) read(levels int) (t api.Type, ok bool) {
	r.left--
	if levels == 0 || r.left < 0 {
		return api.Type{}, false
	}
	if !r.take("(") {
		t.Name = r.word()
		return t, isForm(t)
	}
	t.Name = r.word()
	t.Args, ok = r.readArgs(levels - 1)
	return t, ok && isForm(t)
}

// readArgs is the types up to the bracket that closes, one at least.
func (r *reader) readArgs(levels int) (l []api.Type, ok bool) {
	for r.take(" ") {
		arg, ok := r.read(levels)
		if !ok {
			return nil, false
		}
		l = append(l, arg)
	}
	return l, len(l) > 0 && r.take(")")
}

// take is whether the rest begins with that, which it then has no more.
func (r *reader) take(s string) (ok bool) {
	r.rest, ok = strings.CutPrefix(r.rest, s)
	return ok
}

// word is what stands ahead of a bracket, a space or the end; it may be empty.
func (r *reader) word() string {
	end := strings.IndexAny(r.rest, "( )")
	if end < 0 {
		end = len(r.rest)
	}
	// A copy, as a piece of the text would keep all of its memory for as long as the type lives.
	word := strings.Clone(r.rest[:end])
	r.rest = r.rest[end:]
	return word
}
