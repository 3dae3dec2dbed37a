// Package lists has what several layers do with lists.
package lists

// Own is the same list in memory of its own. It is not slices.Clone, which answers an empty list by a piece of the one handed in.
func Own[T any](list []T) []T {
	if list == nil {
		return nil
	}
	mine := make([]T, len(list))
	copy(mine, list)
	return mine
}
