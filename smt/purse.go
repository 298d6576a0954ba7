package smt

import "avow/api"

// mostSteps: more steps count as these, so that what isn't decided is given up in some seconds.
const mostSteps = 1 << 20

// purse: the steps that are left. What is done hangs on it in nothing but that all ends once it is empty: so a verdict that was known stays with more steps.
type purse struct{ left int }

func newPurse(b api.Budget) *purse { return &purse{left: min(b.Steps, mostSteps)} }

func (p *purse) spend(steps int) { p.left -= steps }

// empty tells whether more was spent than there was.
func (p *purse) empty() bool { return p.left < 0 }
