package matm

import (
	"carousel/api"
	"carousel/wide"
)

// A product of two numbers has 2^32 times as many parts as its value has.
const partBits = 32

// Dot multiplies two rows.
func Dot(a, b []api.Fix) api.Fix {
	// One Wide cannot hold every sum of products, so what stands above 2^64 and what stands below it
	// are summed apart: neither comes near to a Wide's bounds.
	var above, below api.Wide
	for i := range min(len(a), len(b)) {
		product := wide.Prod(int64(a[i]), int64(b[i]))
		above = wide.Add(above, wide.Of(product.Hi))
		below = wide.Add(below, api.Wide{Lo: product.Lo})
	}
	above = wide.Add(above, wide.Of(below.Hi))
	// To hold the part above does no harm: where it is held, the whole is held too, on the same side.
	sum := api.Wide{Hi: int64(wide.Fix(above)), Lo: below.Lo}
	return wide.Fix(wide.Shift(sum, partBits))
}
