// Package exact: sums of products, exact however great they grow on the way. It stands beside the
// layers, for those that round such a sum once.
package exact

import (
	"carousel/api"
	"carousel/wide"
)

// A product of two numbers has 2^32 times as many parts as its value has.
const partBits = 32

// Sum is a sum of products; without any it is 0.
//
// One Wide cannot hold every sum of products, so what stands above 2^64 and what stands below it
// are summed apart: neither comes near to a Wide's bounds.
type Sum struct{ above, below api.Wide }

// Add adds the product of two numbers.
func (s *Sum) Add(a, b api.Fix) {
	product := wide.Prod(int64(a), int64(b))
	s.above = wide.Add(s.above, wide.Of(product.Hi))
	s.below = wide.Add(s.below, api.Wide{Lo: product.Lo})
}

// Fix tells the sum as a number, rounded once, held.
func (s *Sum) Fix() api.Fix {
	above := wide.Add(s.above, wide.Of(s.below.Hi))
	// To hold the part above does no harm: where it is held, the whole is held too, on the same side.
	whole := api.Wide{Hi: int64(wide.Fix(above)), Lo: s.below.Lo}
	return wide.Fix(wide.Shift(whole, partBits))
}
