package lab_test

import (
	"fmt"
	"strings"
	"testing"

	"manciple/lab"
)

// plays checks what a script writes, line by line.
func plays(t *testing.T, script []string, want ...string) {
	t.Helper()
	got := lab.Play(strings.Join(script, "\n"))
	all := strings.Join(want, "\n")
	if len(want) > 0 {
		all += "\n"
	}
	if got != all {
		t.Errorf("%q\nwrites %q\nnot    %q", script, got, all)
	}
}

// behind checks what lines write behind the beginning of the document's examples.
func behind(t *testing.T, script []string, want ...string) {
	t.Helper()
	plays(t, append([]string{"world 64 32 8", "session", "session"}, script...), append([]string{"ok", "session 0", "session 1"}, want...)...)
}

var (
	first  = []string{"begin 0", "step 0", "take 0"}
	second = append(first[:3:3], "do 0 open 5 0 0 0 0 0", "step 0", "take 0")
	third  = append(second[:6:6], "do 0 mint 5 0 0 0 9 0", "step 0", "take 0")
	told   = []string{"step 1", "reply 0 2 0 0", "step 1", "reply 0 5 0 0", "step 1", "reply 0 9 0 0"}
)

func with(l []string, more ...string) []string { return append(l[:len(l):len(l)], more...) }

func TestExamples(t *testing.T) {
	behind(t, first, told[:2]...)
	behind(t, second, told[:4]...)
	behind(t, third, told...)
	behind(t, with(third, "all"), with(told, "cell 1 5 0 9 0")...)
	behind(t, with(third, "crash", "all"), with(told, "won 1", "lost")...)
	behind(t, with(third, "commit 0", "step 0", "crash", "all"), with(told, "step 1", "won 1 2", "lost", "cell 1 5 0 9 0")...)
	behind(t, []string{"do 0 open 5 0 0 0 0 0", "step 0", "take 0"}, "step 1", "reply 242 0 0 0")
	behind(t, []string{"send 0 00", "take 0"}, "reply 230 0 0 0")
	behind(t, with(third, "begin 1", "step 1", "do 1 look 5 0 0 0 0 0", "step 1", "state 1", "commit 0", "step 0", "state 1"),
		with(told, "step 1", "step 1", "state 4", "step 1", "state 3")...)
	behind(t, []string{"step 7"}, "step 0")
	plays(t, []string{"session"}, "bad 1")
}

func TestWorld(t *testing.T) {
	plays(t, []string{"world 8 10 3", "all"}, "ok")
	for _, s := range []string{"world 7 32 8", "world 2001 32 8", "world 64 9 8", "world 64 513 8", "world 64 32 2", "world 64 32 65", "world 9999999999999999999 32 8", "world 0 0 0"} {
		plays(t, []string{s, "session"}, "error 1", "bad 2")
		plays(t, []string{"world 64 32 8", "session", s, "session", "world 64 32 8", "session"}, "ok", "session 0", "error 1", "bad 4", "ok", "session 0")
	}
	plays(t, []string{"world 64 32 8", "world 64 32", "session", "session"}, "ok", "bad 2", "session 0", "session 1")
	var script, want []string
	for i := range 32 {
		script, want = append(script, "session"), append(want, fmt.Sprint("session ", i))
	}
	plays(t, with([]string{"world 64 32 8"}, with(script, "session")...), with([]string{"ok"}, with(want, "error 3")...)...)
}

func TestRequests(t *testing.T) {
	behind(t, with(first, "mark 0", "step 0", "mark 0", "step 0", "back 0 0", "step 0", "back 0 1", "step 0", "abort 0", "step 0", "take 0"),
		"step 1", "reply 0 2 0 0", "step 1", "step 1", "step 1", "step 1", "step 1",
		"reply 0 0 0 0", "reply 0 1 0 0", "reply 0 0 0 0", "reply 151 0 0 0", "reply 0 2 0 0")
	behind(t, []string{"begin 0", "begin 0", "take 0", "state 0", "step 0", "state 0", "step 0", "take 1", "state 2", "state 9999999999999999999"},
		"reply 241 0 0 0", "state 3", "step 1", "state 2", "step 0", "state 0", "state 0")
	// numbers in smaller types are taken modulo what these hold
	behind(t, with(first, "do 0 open 4294967301 4294967296 4294967296 4294967296 0 9999999999999999999", "step 0", "back 0 4294967296", "step 0", "take 0", "all"),
		"step 1", "reply 0 2 0 0", "step 1", "step 1", "reply 0 5 0 0", "reply 151 0 0 0", "cell 1 5 0 0 0")
	behind(t, []string{"begin 4294967296", "step 4294967296", "begin 9223372036854775808", "take 4294967296"}, "step 0")
	behind(t, []string{"send 0 0100000000000000000000000000000000000000000000000000000000000000000000000000", "step 0", "take 0"}, "step 1", "reply 0 2 0 0")
	behind(t, with(first, "send 0 020000000001fedcba98000000000000000000000000000000000000000000000000", "step 0", "take 0", "send 0 0200000000011032547600000000000000000000000000000000000000000000000000000000", "step 0", "take 0"),
		"step 1", "reply 0 2 0 0", "step 0", "reply 230 0 0 0", "step 1", "reply 0 1985229328 0 0")
	behind(t, with(first, "send 0 020000000001fedcba9800000000000000000000000000000000000000000000000000000000", "step 0", "take 0"), "step 1", "reply 0 2 0 0", "step 1", "reply 0 2562383102 0 0")
	behind(t, []string{"send 0 -", "send 0 0aff", "send 7 00", "take 0"}, "reply 230 0 0 0", "reply 230 0 0 0")
}

// Each operation has its number.
func TestKinds(t *testing.T) {
	w := []string{"begin 0", "step 0", "begin 1", "step 1"}
	steps := []string{"step 1", "step 1"}
	do := func(reply string, line string) {
		w = append(w, "do 0 "+line, "step 0")
		steps = append(steps, "step 1")
		got := lab.Play("world 200 32 8\nsession\nsession\n" + strings.Join(w, "\n") + "\ntake 0\n")
		if !strings.HasSuffix(got, "\nreply "+reply+"\n") {
			l := strings.Split(got, "\n")
			t.Errorf("%s: %v", line, l[len(l)-2])
		}
	}
	do("0 1 0 0", "open 1 0 0 0 0 0")
	do("0 2 0 0", "open 2 0 0 0 0 0")
	do("0 90 0 0", "mint 1 0 0 0 90 0")
	do("0 80 0 0", "sink 1 0 0 0 10 0")
	do("0 30 0 0", "make 1 0 1 0 30 0")
	do("0 20 0 0", "use 1 0 1 0 10 0")
	do("0 50 30 0", "deposit 1 0 0 0 30 0")
	do("0 60 20 0", "draw 1 0 0 0 10 0")
	do("0 15 0 0", "pay 1 2 0 0 5 0")
	do("0 17 0 0", "give 1 2 1 0 3 0")
	do("0 2 0 0", "craft 1 0 1 0 2 0")
	do("0 1 0 0", "trade 1 2 0 0 0 0")
	do("0 7 0 0", "offer 1 0 0 1 7 0")
	do("0 0 0 0", "agree 1 0 0 1 0 0")
	do("0 1 0 0", "agree 2 0 0 1 0 0")
	do("0 2 0 0", "trade 1 2 0 0 0 0")
	do("0 1 0 0", "break 2 0 0 2 0 0")
	do("0 1 0 0", "sell 1 0 1 0 4 6")
	do("215 0 0 0", "bid 2 0 0 1 8 0")
	do("0 6 0 0", "bid 2 0 0 1 6 0")
	do("0 6 0 0", "close 1 0 0 1 0 0")
	do("0 59 15 9", "look 1 0 1 0 0 0")
}

func TestCheckAndWrite(t *testing.T) {
	// 8 frames: pages 0 and 1 have gone, the others are other than on the disk
	behind(t, []string{"write 0", "write 2", "write 2", "write 32", "write 4294967298", "check"}, "write 0", "write 1", "write 0", "write 0", "write 0", "ok")
	var script []string
	for range 40 {
		script = append(script, "check")
	}
	got := lab.Play("world 8 10 3\n" + strings.Join(script, "\n"))
	if !strings.HasPrefix(got, "ok\nok\n") || !strings.HasSuffix(got, "error 80\nerror 80\n") || strings.Count(got, "\n") != 41 {
		t.Errorf("check: %q", got)
	}
}

func TestCrash(t *testing.T) {
	// a transaction whose records lasted by a checkpoint, and that had not committed
	behind(t, with(third, "check", "crash", "all", "step 0", "session"), with(told, "ok", "won 1", "lost 2", "step 0", "session 0")...)
	// fates of sectors that have nothing to lose, and of none
	behind(t, []string{"crash 0 2 1 5 1 3 0 0", "crash"}, "won 1", "lost", "won", "lost")
	behind(t, []string{"crash 0", "crash 0 1 2", "crash 0 1 2 3 4", "crash 0 1 2 x", "crash 258 9999999999999999999 9999999999999999999 0"},
		"bad 4", "bad 5", "bad 6", "bad 7", "won 1", "lost")
}

func TestLines(t *testing.T) {
	for text, want := range map[string]string{
		"":                            "",
		"\n":                          "bad 1\n",
		"\n\n":                        "bad 1\nbad 2\n",
		"x":                           "bad 1\n",
		"world 8 10 3":                "ok\n",
		"world 8 10 3\n":              "ok\n",
		"world 8 10 3\n\nsession":     "ok\nbad 2\nsession 0\n",
		"world 8 10 3\r\nsession":     "bad 1\nbad 2\n",
		" world 8 10 3\nworld 8 10 3": "bad 1\nok\n",
		"\x00\xff":                    "bad 1\n",
	} {
		if got := lab.Play(text); got != want {
			t.Errorf("%q writes %q", text, got)
		}
	}
	if got := lab.Play(strings.Repeat("\n", 3000)); strings.Count(got, "\n") != 2000 || !strings.HasSuffix(got, "bad 2000\n") {
		t.Error("more than 2000 lines")
	}
	if got := lab.Play(strings.Repeat("x", 65536)); got != "bad 1\n" {
		t.Errorf("65536 bytes: %q", got)
	}
	if got := lab.Play(strings.Repeat("x", 65537)); got != "" {
		t.Errorf("65537 bytes: %q", got)
	}
	if got := lab.Play("world 8 10 3\n" + strings.Repeat("step 0\n", 1999)); strings.Count(got, "\n") != 2000 {
		t.Error("2000 lines")
	}
}

// Any line that is none writes so, and does nothing.
func TestBadLines(t *testing.T) {
	all := []string{
		"", " ", "sessions", "Session", "session 0", "session ", " session", "begin", "begin ", "begin x", "begin -1", "begin +1", "begin 00", "begin 01",
		"begin 0 0", "begin  0", "begin 0 ", "begin 1.0", "begin 10000000000000000000", "begin 0x1", "begin ٣", "mark", "mark 0 1", "commit", "commit a", "abort", "abort 0 0",
		"back 0", "back", "back 0 0 0", "do 0", "do 0 open", "do 0 open 5 0 0 0 0", "do 0 open 5 0 0 0 0 0 0", "do 0 opens 5 0 0 0 0 0", "do 0 1 5 0 0 0 0 0", "do 0 OPEN 5 0 0 0 0 0", "do x open 5 0 0 0 0 0", "do 0 open 5 0 0 0 x 0",
		"send 0", "send", "send 0 ", "send 0 0", "send 0 000", "send 0 0g", "send 0 AA", "send 0 --", "send 0 0 0", "send 0 00 ", "send x 00", "send 0 0x",
		"step", "step x", "step 0 0", "take", "take 0 0", "take -", "state", "state 0 0", "check 0", "check ", "write", "write x", "write 0 0", "crash 1", "crash 1 1", "crash 0 0 0 0 ", "crash  0 0 0 0",
		"all 0", "all ", "world", "world 8", "world 8 10", "world 8 10 3 0", "world 8 10 x", "world 8 10 03", "bad", "bad 1", "ok",
	}
	script := []string{"world 64 32 8", "session", "session"}
	want := []string{"ok", "session 0", "session 1"}
	for i, s := range all {
		script = append(script, s)
		want = append(want, fmt.Sprint("bad ", i+4))
	}
	// nothing was done by them
	script = append(script, "state 0", "take 0", "session", "all")
	want = append(want, "state 1", "session 2")
	plays(t, script, want...)
	for _, s := range []string{"session", "begin 0", "back 0 0", "do 0 open 5 0 0 0 0 0", "send 0 00", "step 0", "take 0", "state 0", "check", "write 0", "crash", "all"} {
		plays(t, []string{s, "world 8 10 3"}, "bad 1", "ok")
	}
}

func TestAnyScript(t *testing.T) {
	words := strings.Split("world session begin mark back commit abort do send step take state check write crash all open mint offer 0 1 2 5 8 10 32 64 - 00 9999999999999999999 x", " ")
	seed := uint32(1)
	next := func(n int) int {
		seed = seed*1664525 + 1013904223
		return int(seed>>8) % n
	}
	for range 300 {
		var b strings.Builder
		b.WriteString("world 20 16 3\nsession\nsession\nbegin 0\nstep 0\ndo 0 open 1 0 0 0 0 0\nstep 0\n")
		for range 60 {
			for i := range next(5) {
				if i > 0 {
					b.WriteByte(' ')
				}
				b.WriteString(words[next(len(words))])
			}
			b.WriteByte('\n')
		}
		text := b.String()
		if got := lab.Play(text); got != lab.Play(text) || !strings.HasSuffix(got, "\n") {
			t.Fatalf("%q writes %q", text, got)
		}
	}
}
