package graph

// stay tells those of l of which so holds, in their order, in a list of their own.
func stay[T any](l []T, so func(T) bool) []T {
	var told []T
	for _, x := range l {
		if so(x) {
			told = append(told, x)
		}
	}
	return told
}

// each tells what becomes of each of l, in their order, in a list of its own.
func each[T, U any](l []T, becomes func(T) U) []U {
	told := make([]U, 0, len(l))
	for _, x := range l {
		told = append(told, becomes(x))
	}
	return told
}

// find tells where the one of the number n stands in l; -1, if there is none.
func find[T any](l []T, number func(T) int, n int) int {
	for i, x := range l {
		if number(x) == n {
			return i
		}
	}
	return -1
}

func rises[T any](l []T, number func(T) int) bool {
	for i := 1; i < len(l); i++ {
		if number(l[i-1]) >= number(l[i]) {
			return false
		}
	}
	return true
}

// given tells whether the numbers of l rise, and each is one that was given: from 1 on, below next.
func given[T any](l []T, number func(T) int, next int) bool {
	if len(l) == 0 {
		return true
	}
	return rises(l, number) && number(l[0]) >= 1 && number(l[len(l)-1]) < next
}
