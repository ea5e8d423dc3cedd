package place

// keeper hands out places to spans that begin, and takes them back when they end.
type keeper struct {
	// goOn are spans that go on: by where they end, the places in which they are kept. What one end gives back stands in the order of beginnings, so that the map's own order is not seen.
	goOn map[int][]int
	// at is where a span that goes on may end next.
	at int
	// machine are the machine's registers that are free, and free the slots that were taken and are given back.
	machine, free []int
	slots         int
}

// newKeeper is one that has handed out nothing.
func newKeeper() *keeper {
	k := &keeper{goOn: map[int][]int{}}
	for p := firstSlot - 1; p >= firstPlace; p-- {
		k.machine = append(k.machine, p)
	}
	return k
}

// endUpTo takes back the places of the spans that end at a place of instructions, or ahead of it.
func (k *keeper) endUpTo(end int) {
	for ; k.at <= end; k.at++ {
		for _, p := range k.goOn[k.at] {
			k.takeBack(p)
		}
		delete(k.goOn, k.at)
	}
}

// takeBack has a place free again.
func (k *keeper) takeBack(p int) {
	if p < firstSlot {
		k.machine = append(k.machine, p)
		return
	}
	k.free = append(k.free, p)
}

// begin has a span go on in a place that is free: a slot, if it must, or if the machine has no register left.
func (k *keeper) begin(s [2]int, inSlot bool) int {
	var p int
	if len(k.machine) > 0 && !inSlot {
		p, k.machine = last(k.machine)
	} else {
		p = k.slot()
	}
	k.goOn[s[1]] = append(k.goOn[s[1]], p)
	return p
}

// slot is a slot that is free. There is a new one only if all are taken, so that there are never more than spans that go on.
func (k *keeper) slot() int {
	if len(k.free) == 0 {
		k.slots++
		return firstSlot + k.slots - 1
	}
	var p int
	p, k.free = last(k.free)
	return p
}

// last is the last one of some, and those ahead of it.
func last(l []int) (int, []int) {
	n := len(l) - 1
	return l[n], l[:n]
}
