package lab

import (
	"slices"
	"strings"

	"manciple/api"
)

// bad is what a line is given up with that is none.
type bad struct{}

const mostDigits = 19

// line is what is left of a line: its words, of which one after the other is taken.
type line []string

func (l line) giveUp() { panic(bad{}) }

// word takes the next word.
func (l *line) word() string {
	if len(*l) == 0 {
		l.giveUp()
	}
	w := (*l)[0]
	*l = (*l)[1:]
	return w
}

// end says that there must be no words any more.
func (l *line) end() {
	if len(*l) > 0 {
		l.giveUp()
	}
}

// number takes a number.
func (l *line) number() uint64 {
	w := l.word()
	if w == "" || len(w) > mostDigits || w[0] == '0' && len(w) > 1 {
		l.giveUp()
	}
	var n uint64
	for i := range len(w) {
		if w[i] < '0' || w[i] > '9' {
			l.giveUp()
		}
		n = 10*n + uint64(w[i]-'0')
	}
	return n
}

// last takes a number behind which nothing stands any more.
func (l *line) last() uint64 {
	n := l.number()
	l.end()
	return n
}

// hex takes bytes.
func (l *line) hex() []byte {
	w := l.word()
	if w == "-" {
		return nil
	}
	if w == "" || len(w)%2 != 0 {
		l.giveUp()
	}
	var b []byte
	for i := 0; i < len(w); i += 2 {
		b = append(b, l.digit(w[i])<<4|l.digit(w[i+1]))
	}
	return b
}

// digit is what a digit of bytes is.
func (l *line) digit(c byte) byte {
	const digits = "0123456789abcdef"
	n := strings.IndexByte(digits, c)
	if n < 0 {
		l.giveUp()
	}
	return byte(n)
}

// kind takes an operation's kind.
func (l *line) kind() uint8 {
	names := []string{
		"open", "mint", "sink", "make", "use", "deposit", "draw", "pay", "give",
		"craft", "trade", "offer", "agree", "break", "sell", "bid", "close", "look",
	}
	i := slices.Index(names, l.word())
	if i < 0 {
		l.giveUp()
	}
	return api.OpOpen + uint8(i)
}

// op takes an operation.
func (l *line) op() api.Op {
	var op api.Op
	op.Kind = l.kind()
	op.Who = uint32(l.number())
	op.Whom = uint32(l.number())
	op.What = uint32(l.number())
	op.ID = uint32(l.number())
	op.N = l.number()
	op.Price = l.number()
	return op
}

// fates takes all that is left, four and four.
func (l *line) fates() []api.Fate {
	var fates []api.Fate
	for len(*l) > 0 {
		var f api.Fate
		f.File = uint8(l.number())
		f.Sector = int(l.number())
		f.Keep = int(l.number())
		f.Torn = int(l.number())
		fates = append(fates, f)
	}
	return fates
}
