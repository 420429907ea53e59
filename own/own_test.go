package own_test

import (
	"slices"
	"testing"

	"confidant/api"
	"confidant/own"
	"confidant/task"
)

func TestP15_1_TaskOfItsOwn(t *testing.T) {
	whole := []int32{1, 2, 3, 901, 902}
	given := api.Task{Id: 1, Func: 2, Pc: 3, Stack: whole[:3], Vars: [api.Locals]int32{4, 5, 6, 7}, Label: 8, Clear: 9, Privs: 10, Worker: 11}
	got := own.Task(given)
	if !task.Same(got, given) {
		t.Errorf("Task(%v): %v", given, got)
	}
	got.Stack[0] = -1
	_ = append(got.Stack, -2)
	if !slices.Equal(whole, []int32{1, 2, 3, 901, 902}) {
		t.Errorf("the stack is now %v", whole)
	}
	if got := own.Task(api.Task{}); !task.Same(got, api.Task{}) {
		t.Errorf("Task of no task: %v", got)
	}
}
