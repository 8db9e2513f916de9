package paper

import (
	"math"
	"slices"
	"strings"
	"testing"

	"imprimatur/api"
	"imprimatur/chart"
	"imprimatur/step"
)

func TestTasks(t *testing.T) {
	c := of("p", "")
	p := paperAt(c, "0@1", "write=bob check=ann pay=cat write=ann check=ann send=bob write=ann")
	checkTasks(t, p, "ann", "check", "write", "check", "write")
	checkTasks(t, p, "bob", "write", "send")
	checkTasks(t, p, "cat", "pay")
	for _, user := range []string{"", "dan", "an", "annn", "Ann", "ann ", "write", "letter", "beyond", "\xff"} {
		checkTasks(t, p, user)
	}
	checkTasks(t, paperAt(c, "0@1", ""), "ann")
	checkTasks(t, Paper{}, "ann")
	checkTasks(t, Paper{}, "")
	// A user may be called anything, and a task, too.
	p.Done = []Done{{"", ""}, {"write", ""}, {"", "ann"}, {"write", "write"}}
	checkTasks(t, p, "", "", "write")
	checkTasks(t, p, "ann", "")
	checkTasks(t, p, "write", "write")
}

// Where the document stands has no part in it.
func TestTasksAnywhere(t *testing.T) {
	for _, at := range []step.Config{{}, {Set: math.MaxUint32}, {Set: 5, Past: []uint32{1}, Since: []int{1, 2, 3}}} {
		checkTasks(t, Paper{Name: "ann", At: at, Done: []Done{{"write", "ann"}}}, "ann", "write")
	}
}

// Of many, and of what was done by Fire.
func TestTasksOfFire(t *testing.T) {
	c := of("p", "go/write:0>0 go:0>0 go/check:0>0")
	p, _, _ := New(c, "letter", 0)
	var want []string
	for i := range 300 {
		user := []string{"ann", "bob"}[i%2]
		p, _, _ = Fire(c, p, i%3, user, nil, i)
		if task := c.Trans[i%3].Task; task != "" && user == "ann" {
			want = append(want, task)
		}
	}
	checkTasks(t, p, "ann", want...)
	checkTasks(t, p, "bob", slices.Repeat([]string{"write", "check"}, 50)[:len(p.Done)-len(want)]...)
	if len(want) != 100 || len(p.Done) != 200 {
		t.Errorf("%d and %d tasks", len(want), len(p.Done))
	}
}

func TestStates(t *testing.T) {
	c := of("p p0 p0 a p3 p3 p5 p5 h0", "")
	// Names in another order than that of their letters.
	copy(c.Names, []string{"work", "draft", "check", "all", "law", "money", "in", "out", "back"})
	for _, test := range []struct {
		stands string
		want   []string
	}{
		{"0@1 1@1", []string{"work", "draft"}},
		{"0@1 2@1", []string{"work", "check"}},
		{"3@1 4@1 5@1 6@1", []string{"all", "law", "money", "in"}},
		{"3@1 4@1 5@1 7@1", []string{"all", "law", "money", "out"}},
		// Since when it is there, and what it was left in, have no part in it.
		{"3@9 4@8 5@7 7@0 0:2", []string{"all", "law", "money", "out"}},
		{"0@0 1@0 0:1,2", []string{"work", "draft"}},
		{"", nil},
	} {
		checkStates(t, c, paperAt(c, test.stands, "write=ann"), test.want...)
	}
}

// At the beginning, and behind transitions.
func TestStatesBehindCalls(t *testing.T) {
	c := of("p a p1 p1 p2 p2 p3 p3 p", "go/write:0>1 go:4>5 5@6>7 5>8 go:8>1")
	p, _, _ := New(c, "letter", 0)
	checkStates(t, c, p, "s0")
	p, _, _ = Fire(c, p, 0, "ann", nil, 1)
	checkStates(t, c, p, "s1", "s2", "s3", "s4", "s6")
	p, _, _ = Late(c, p, 2, 6)
	checkStates(t, c, p, "s1", "s2", "s3", "s4", "s7")
	p, _, _ = Fire(c, p, 1, "ann", nil, 7)
	checkStates(t, c, p, "s8")
	p, _, _ = Fire(c, p, 4, "ann", nil, 7)
	checkStates(t, c, p, "s1", "s2", "s3", "s4", "s6")
}

func TestStatesMany(t *testing.T) {
	c := of(strings.Repeat("p ", api.MaxStates), "")
	for i, name := range c.Names {
		checkStates(t, c, Paper{At: step.Config{Set: 1 << i}}, name)
	}
	checkStates(t, c, Paper{At: step.Config{Set: 1<<api.MaxStates - 1}}, c.Names...)
	// Bits beyond the states are none.
	checkStates(t, c, Paper{At: step.Config{Set: math.MaxUint32}}, c.Names...)
	checkStates(t, c, Paper{At: step.Config{Set: math.MaxUint32 &^ (1<<api.MaxStates - 1)}})
	checkStates(t, chart.Chart{}, Paper{At: step.Config{Set: math.MaxUint32}})
	c.Names = slices.Repeat([]string{"s"}, 70)
	checkStates(t, c, Paper{At: step.Config{Set: math.MaxUint32}}, c.Names[:32]...)
}
