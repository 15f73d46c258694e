package matm

import (
	"carousel/api"
	"carousel/exact"
)

// Dot multiplies two rows.
func Dot(a, b []api.Fix) api.Fix {
	var sum exact.Sum
	for i := range min(len(a), len(b)) {
		sum.Add(a[i], b[i])
	}
	return sum.Fix()
}
