package conv

import (
	"carousel/api"
	"carousel/tens"
)

// Pool tells the greatest of so many.
func Pool(a api.Tensor, wide int) (api.Tensor, []int, api.Errno) {
	if !tens.Good(a) {
		return api.Tensor{}, nil, api.EARG
	}
	if len(a.Dims) != rowSides {
		return api.Tensor{}, nil, api.ESHAPE
	}
	rows, long := a.Dims[0], a.Dims[1]
	if wide < 1 || wide > long {
		return api.Tensor{}, nil, api.EARG
	}
	stops := long / wide
	pooled := make([]api.Fix, rows*stops)
	places := make([]int, rows*stops)
	for i := range places {
		// A row's last numbers, too few for a window, are passed over.
		from := i/stops*long + i%stops*wide
		places[i] = from + firstGreatest(a.V[from:from+wide])
		pooled[i] = a.V[places[i]]
	}
	return api.Tensor{Dims: []int{rows, stops}, V: pooled}, places, api.OK
}

func firstGreatest(v []api.Fix) int {
	best := 0
	for i, n := range v {
		if n > v[best] {
			best = i
		}
	}
	return best
}
