package ops

import "confidant/api"

func hasNumber(op int) bool {
	return op == api.Push || op == api.Fail
}

func hasPlace(op int) bool {
	return op == api.Jump || op == api.JumpZ
}

func hasLocal(op int) bool {
	return op == api.Load || op == api.Store
}

func hasTag(op int) bool {
	switch op {
	case api.Raise, api.Input, api.New, api.Emit:
		return true
	}
	return false
}

func hasFunction(op int) bool {
	return op == api.Fork
}

func hasPort(op int) bool {
	return op == api.Release || op == api.Take
}

func takesOne(op int) bool {
	switch op {
	case api.Pop, api.Dup, api.JumpZ, api.Store, api.Input, api.New, api.Read, api.Wait, api.Emit, api.Release, api.Ret:
		return true
	}
	return false
}

func takesTwo(op int) bool {
	switch op {
	case api.Add, api.Sub, api.Mul, api.Div, api.Less, api.Eq, api.Write, api.Fork:
		return true
	}
	return false
}

func putsOne(op int) bool {
	switch op {
	case api.Push, api.Add, api.Sub, api.Mul, api.Div, api.Less, api.Eq, api.Load, api.Label, api.Input, api.New, api.Read, api.Fork, api.Wait, api.Release:
		return true
	}
	return false
}

func putsTwo(op int) bool {
	return op == api.Dup || op == api.Take
}
