package duty

import (
	"math/rand"
	"testing"
)

// The chapter once more, in another way: bit by bit, and task by task.

func slowCount(set uint32) (n int) {
	for i := range 32 {
		if set>>i%2 == 1 {
			n++
		}
	}
	return n
}

func slowFirst(set uint32, l []Set) int {
	for at, s := range l {
		missing := s.N
		for i := range 32 {
			if set>>i%2 == 1 && s.Roles>>i%2 == 1 {
				missing--
			}
		}
		if missing <= 0 {
			return at
		}
	}
	return -1
}

func slowTasks(done []string, task string, l [][]string) bool {
	for _, list := range l {
		hasTask, hasOther := false, false
		for _, x := range list {
			hasTask = hasTask || x == task
			for _, did := range done {
				hasOther = hasOther || x == did && x != task
			}
		}
		if hasTask && hasOther {
			return false
		}
	}
	return true
}

// spread puts the low bits of x to both ends and the middle of a set.
func spread(x int) (set uint32) {
	for i, at := range []int{0, 1, 15, 16, 31} {
		set |= uint32(x>>i&1) << at
	}
	return set
}

func TestAllSmallSets(t *testing.T) {
	for x := range 32 {
		set := spread(x)
		if Count(set) != slowCount(set) {
			t.Errorf("Count(%b) is %d", set, Count(set))
		}
		for y := range 32 {
			for n := -2; n <= 7; n++ {
				one := Set{n, spread(y)}
				checkFirst(t, slowFirst(set, []Set{one}), set, one)
				for z := range 32 {
					l := []Set{one, {2, spread(z)}}
					checkFirst(t, slowFirst(set, l), set, l...)
				}
			}
		}
	}
}

func TestSomeSets(t *testing.T) {
	random := rand.New(rand.NewSource(5))
	count := map[int]int{}
	for range 50000 {
		set := random.Uint32()
		if random.Intn(4) == 0 {
			set &= random.Uint32()
		}
		if Count(set) != slowCount(set) {
			t.Fatalf("Count(%b) is %d", set, Count(set))
		}
		l := make([]Set, random.Intn(9))
		for i := range l {
			l[i] = Set{random.Intn(16), random.Uint32() & random.Uint32()}
			// Often as many as there are, or one more: there the answer turns.
			if random.Intn(3) > 0 {
				l[i].N = slowCount(set&l[i].Roles) + min(1, random.Intn(4))
			}
		}
		at := slowFirst(set, l)
		checkFirst(t, at, set, l...)
		count[at]++
	}
	for at := -1; at < 6; at++ {
		if count[at] < 20 {
			t.Errorf("the answer %d comes %d times alone: %v", at, count[at], count)
		}
	}
}

// allLists returns all lists of at most n of some tasks.
func allLists(tasks []string, n int) [][]string {
	l := [][]string{{}}
	for from := 0; n > 0; n-- {
		to := len(l)
		for _, shorter := range l[from:to] {
			for _, task := range tasks {
				l = append(l, append(shorter[:len(shorter):len(shorter)], task))
			}
		}
		from = to
	}
	return l
}

func TestAllShortLists(t *testing.T) {
	tasks := []string{"", "a", "b", "ab"}
	short := allLists(tasks, 3)
	if len(short) != 1+4+16+64 {
		t.Fatalf("%d short lists", len(short))
	}
	for _, done := range allLists(tasks, 2) {
		for _, task := range tasks {
			for _, first := range short {
				checkTasks(t, slowTasks(done, task, [][]string{first}), done, task, first)
				for _, second := range short {
					l := [][]string{first, second}
					checkTasks(t, slowTasks(done, task, l), done, task, l...)
				}
			}
		}
	}
}

func someList(random *rand.Rand, tasks []string) []string {
	l := make([]string, random.Intn(5))
	for i := range l {
		l[i] = tasks[random.Intn(len(tasks))]
	}
	return l
}

func TestSomeLists(t *testing.T) {
	random := rand.New(rand.NewSource(5))
	tasks := list("a b c d e f g h write check pay file")
	count := map[bool]int{}
	for range 50000 {
		done, task := someList(random, tasks), tasks[random.Intn(len(tasks))]
		l := make([][]string, random.Intn(7))
		for i := range l {
			l[i] = someList(random, tasks)
		}
		may := slowTasks(done, task, l)
		checkTasks(t, may, done, task, l...)
		count[may]++
	}
	if count[true] < 2000 || count[false] < 2000 {
		t.Errorf("true and false come %v times", count)
	}
}
