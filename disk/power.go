package disk

import "syngraph/api"

// power is what a disk's commands use up. It goes with the command for which none is left; of a number below nought it never goes.
type power struct {
	left int
	gone bool
}

// endless tells power that doesn't go.
func endless() power {
	return power{left: -1}
}

// use takes the power for one command.
func (p *power) use() api.Errno {
	if p.left == 0 {
		p.gone = true
		return api.ErrDown
	}
	if p.left > 0 {
		p.left--
	}
	return api.OK
}
