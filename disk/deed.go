package disk

// deed is one thing that was done: again does its first units once more, on other files.
type deed struct {
	units int
	again func(files map[string][]byte, units int)
}

// do does a thing, and keeps it for the files that a crash will leave.
func (d *Disk) do(units int, again func(files map[string][]byte, units int)) {
	again(d.files, units)
	d.done = append(d.done, deed{units, again})
	d.countOne()
}

// units counts those of all that was done.
func (d *Disk) units() int {
	n := 0
	for _, x := range d.done {
		n += x.units
	}
	return n
}

// makeDurable does the first units of what was done on the durable files, and forgets the rest.
func (d *Disk) makeDurable(units int) {
	for _, x := range d.done {
		n := min(units, x.units)
		if n == 0 {
			break
		}
		x.again(d.durable, n)
		units -= n
	}
	d.done = nil
}
