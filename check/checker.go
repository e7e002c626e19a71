package check

import "tandem/api"

// controls is how many primitives, the last ones of api's list, are done by the machine alone.
const controls = 7

// checker knows what the instructions of all protos of a program are held against.
type checker struct {
	protos []api.Proto
	prims  []api.Prim
	needs  [api.OpPick + 1]need
}

func checkerOf(ps []api.Proto) *checker {
	return &checker{protos: ps, prims: api.Prims(), needs: needs()}
}

// headed tells whether what stands ahead of a proto's instructions is right, and how many of them there are.
func (c *checker) headed(n int) bool {
	p := c.protos[n]
	if n == 0 && (p.Args != 0 || p.Free != 0 || p.Rest) {
		return false
	}
	return isWithin(p.Args, 0, api.MaxArgs) && isWithin(p.Free, 0, api.MaxStack) && isWithin(len(p.Code), 1, api.MaxCode)
}

func isWithin(n, least, most int) bool { return least <= n && n <= most }

// takes tells whether OpPrim may hand so many arguments to a primitive.
func (c *checker) takes(prim, n int) bool {
	p := c.prims[prim]
	return prim < len(c.prims)-controls && p.Least <= n && (n <= p.Most || p.Most == -1)
}
