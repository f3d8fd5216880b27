// Package inner is what the kinds of tunnels ask alike of what they carry.
package inner

import "underpass/api"

// IDs is how many ids the three bytes of a VXLAN or Geneve header have.
const IDs = 1 << 24

// Right tells what is wrong with a frame (K1, L2, M1). It wraps nothing, since
// it is no layer.
func Right(frame []byte) error {
	switch {
	case len(frame) < api.MinFrame:
		return api.ErrShort
	case len(frame) > api.MaxFrame:
		return api.ErrBig
	}
	return nil
}
