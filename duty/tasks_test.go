package duty

import (
	"slices"
	"strconv"
	"strings"
	"testing"
)

// list returns the words of a text as tasks.
func list(text string) []string {
	return strings.Fields(text)
}

// lists returns the lists that | stands between.
func lists(text string) (l [][]string) {
	for part := range strings.SplitSeq(text, "|") {
		l = append(l, list(part))
	}
	return l
}

// copied returns the same lists in memory of their own.
func copied(l [][]string) [][]string {
	l = slices.Clone(l)
	for i := range l {
		l[i] = slices.Clone(l[i])
	}
	return l
}

// checkTasks holds Tasks against what it is to report, and the lists against what they were (R4).
func checkTasks(t *testing.T, want bool, done []string, task string, l ...[]string) {
	t.Helper()
	doneBefore, before := slices.Clone(done), copied(l)
	if got := Tasks(done, task, l...); got != want {
		t.Errorf("Tasks(%q, %q, %q) is %t", done, task, l, got)
	}
	if !slices.Equal(done, doneBefore) || !slices.EqualFunc(l, before, slices.Equal) {
		t.Errorf("Tasks(%q, %q, %q) made the lists %q, %q", doneBefore, task, before, done, l)
	}
}

// Tasks that stand together in a list are apart, whichever of them comes first.
func TestTasksTogether(t *testing.T) {
	one := lists("write check pay")
	for _, task := range one[0] {
		for _, did := range one[0] {
			checkTasks(t, task == did, []string{did}, task, one...)
		}
	}
	checkTasks(t, false, list("other write"), "pay", one...)
	checkTasks(t, false, list("write other"), "pay", one...)
	checkTasks(t, false, list("write check"), "pay", one...)
	checkTasks(t, false, list("other more write more"), "check", one...)
}

func TestTasksInNoList(t *testing.T) {
	one := lists("write check")
	checkTasks(t, true, list("write check"), "read", one...)
	checkTasks(t, true, list("read"), "write", one...)
	checkTasks(t, true, list("read file"), "check", one...)
	checkTasks(t, true, list("read"), "file", one...)
	checkTasks(t, true, list("write check read"), "file", one...)
}

func TestTasksInSeveralLists(t *testing.T) {
	several := lists("a b | b c | d e f")
	// Being apart goes no further than a list: a from b, b from c, but not a from c.
	checkTasks(t, true, list("a"), "c", several...)
	checkTasks(t, true, list("c"), "a", several...)
	checkTasks(t, true, list("a c"), "d", several...)
	checkTasks(t, true, list("b"), "e", several...)
	for _, c := range []string{"ab", "ba", "bc", "cb", "de", "df", "ed", "ef", "fd", "fe"} {
		checkTasks(t, false, list(c[:1]), c[1:], several...)
	}
	checkTasks(t, false, list("a c"), "b", several...)
	checkTasks(t, false, list("d a"), "b", several...)
	// Together in the first list, in one between, in the last one, and in more than one.
	for _, text := range []string{"x y | a x | b y", "a x | x y | b y", "a x | b y | x y", "x y | a | y x"} {
		checkTasks(t, false, list("x"), "y", lists(text)...)
		checkTasks(t, false, list("y"), "x", lists(text)...)
	}
	// Each in a list of its own.
	checkTasks(t, true, list("x"), "y", lists("a x | b y | x b | y a")...)
}

// Who did a task may do it again, unless they did another one of its list.
func TestTaskItself(t *testing.T) {
	several := lists("a b c | a d | e a")
	checkTasks(t, true, list("a"), "a", several...)
	checkTasks(t, true, list("a a a"), "a", several...)
	checkTasks(t, true, list("a x"), "a", several...)
	checkTasks(t, true, list("x a y"), "a", several...)
	for _, other := range list("b c d e") {
		checkTasks(t, false, []string{"a", other}, "a", several...)
		checkTasks(t, false, []string{other, "a"}, "a", several...)
		checkTasks(t, false, []string{"a", "x", other, "a"}, "a", several...)
	}
}

func TestTaskTwice(t *testing.T) {
	checkTasks(t, true, list("a"), "a", lists("a a")...)
	checkTasks(t, true, list("a a"), "a", lists("a a | a")...)
	checkTasks(t, true, list("b"), "a", lists("a a")...)
	checkTasks(t, true, list("a a"), "b", lists("a a")...)
	checkTasks(t, false, list("a"), "b", lists("a b a")...)
	checkTasks(t, false, list("b"), "a", lists("a b a")...)
	checkTasks(t, false, list("b"), "a", lists("b a a b")...)
	checkTasks(t, false, list("b b"), "a", lists("a b")...)
	checkTasks(t, false, list("x b x b"), "a", lists("a b")...)
	checkTasks(t, true, list("x x"), "a", lists("a b")...)
}

func TestEmptyLists(t *testing.T) {
	for _, empty := range [][]string{nil, {}, list("a b")[:0]} {
		checkTasks(t, true, list("a b"), "a", empty)
		checkTasks(t, true, list("a b"), "", empty)
		checkTasks(t, true, list("a b"), "c", empty, empty)
		checkTasks(t, false, list("b"), "a", empty, list("a b"), empty)
		checkTasks(t, true, empty, "a", empty)
	}
	for _, none := range [][][]string{nil, {}, lists("a b")[:0]} {
		checkTasks(t, true, list("b c"), "a", none...)
		checkTasks(t, true, list("b c"), "b", none...)
		checkTasks(t, true, list("b c"), "", none...)
		checkTasks(t, true, nil, "a", none...)
		checkTasks(t, true, nil, "", none...)
	}
	checkTasks(t, true, list("b c"), "a")
	// A list of one task keeps nothing apart.
	checkTasks(t, true, list("a b"), "a", lists("a | b")...)
}

func TestNothingDone(t *testing.T) {
	for _, none := range [][]string{nil, {}, list("a b")[:0]} {
		for _, task := range []string{"a", "b", "c", ""} {
			checkTasks(t, true, none, task, lists("a b | b a | a b c")...)
			checkTasks(t, true, none, task, []string{"", "a", "b"})
		}
	}
}

// The empty text is a task like others.
func TestEmptyTask(t *testing.T) {
	checkTasks(t, false, []string{""}, "a", []string{"", "a"})
	checkTasks(t, false, []string{"a"}, "", []string{"", "a"})
	checkTasks(t, false, []string{"", "a"}, "", []string{"a", ""})
	checkTasks(t, false, []string{"x", ""}, "a", []string{"b"}, []string{"a", "x2", ""})
	checkTasks(t, true, []string{""}, "", []string{"", "a"})
	checkTasks(t, true, []string{""}, "", []string{"", ""})
	checkTasks(t, true, []string{""}, "a", []string{"a", "b"})
	checkTasks(t, true, []string{"a", "b"}, "", []string{"a", "b"})
	checkTasks(t, true, []string{"a"}, "", []string{""}, []string{"a"})
	checkTasks(t, true, []string{""}, "a", []string{}, nil, []string{"a"})
}

// Tasks are alike only if all their bytes are; any text may be one.
func TestTasksByteByByte(t *testing.T) {
	checkTasks(t, true, list("A"), "b", lists("a b")...)
	checkTasks(t, true, list("aa"), "b", lists("a b")...)
	checkTasks(t, true, list("a"), "b", lists("aa b")...)
	checkTasks(t, true, list("a"), "b", lists("a bb")...)
	checkTasks(t, true, []string{"a "}, "b", list("a b"))
	checkTasks(t, true, []string{"a\x00"}, "b", list("a b"))
	checkTasks(t, false, []string{"\xff\x00 "}, "\xfe", []string{"\xfe", "\xff\x00 "})
	checkTasks(t, true, []string{"\xff"}, "\xfe", []string{"\xfe", "\ufffd"})
	checkTasks(t, false, []string{"a"}, "\ufffd", []string{"\ufffd", "a"})
}

// Nothing beyond the lengths of the lists is read or written (R4).
func TestTasksMemory(t *testing.T) {
	done, first, second := list("c b a"), list("d c b"), list("e a d")
	l := [][]string{first[:2], second[:2], list("d b")}
	for range 2 {
		// Beyond their lengths, first has b, second has d, and l has the list of d and b.
		checkTasks(t, true, done[:1], "b", l[:2]...)
		checkTasks(t, true, done[1:2], "d", l[:2]...)
		checkTasks(t, true, done[2:], "d", l[:2]...)
		checkTasks(t, false, done[:1], "d", l[:2]...)
		checkTasks(t, false, done, "e", l[:2]...)
		checkTasks(t, false, done[1:2], "d", l...)
	}
	if !slices.Equal(done, list("c b a")) || !slices.Equal(first, list("d c b")) || !slices.Equal(second, list("e a d")) {
		t.Errorf("the lists became %q, %q, %q", done, first, second)
	}
	if len(l[0]) != 2 || &l[0][0] != &first[0] || len(l[1]) != 2 || &l[1][0] != &second[0] || !slices.Equal(l[2], list("d b")) {
		t.Errorf("the list of lists became %q", l)
	}
}

// Nothing of a call is there in the next one, and no later change of a list is seen.
func TestTasksKeepNothing(t *testing.T) {
	done, exclusive := list("a"), list("a b")
	checkTasks(t, false, done, "b", exclusive)
	checkTasks(t, true, done, "b")
	checkTasks(t, true, nil, "b", exclusive)
	exclusive[0] = "c"
	checkTasks(t, true, done, "b", exclusive)
	done[0] = "c"
	checkTasks(t, false, done, "b", exclusive)
}

// Long lists, of which only the ends meet: whoever goes through one for each task of another does not end in time.
func TestManyTasks(t *testing.T) {
	const many = 200000
	done, exclusive := make([]string, many), make([]string, many)
	for i := range many {
		done[i] = "d" + strconv.Itoa(i)
		exclusive[i] = "e" + strconv.Itoa(i)
	}
	task := exclusive[many-1]
	checkTasks(t, true, done, task, exclusive)
	done[many-1] = exclusive[many-1]
	checkTasks(t, true, done, task, exclusive)
	done[many-1] = exclusive[0]
	checkTasks(t, false, done, task, exclusive)
	checkTasks(t, true, done[:many-1], task, exclusive)
	checkTasks(t, true, done, "x", exclusive)
	// Many lists of two, the task in each of them.
	l := make([][]string, many)
	for i := range l {
		l[i] = []string{"x", exclusive[i]}
	}
	checkTasks(t, true, done[:many-1], "x", l...)
	checkTasks(t, false, done, "x", l...)
	checkTasks(t, true, done, "x", l[1:]...)
}
