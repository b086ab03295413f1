package agent

import (
	"strconv"

	"coxswain/api"
	"coxswain/disk"
)

const bootName = "boot"

// lastBoot is the number of the last boot on a disk; 0: there was none.
func lastBoot(d *disk.Disk) (int, api.Errno) {
	data, e := d.Read(bootName)
	if e == api.ErrName {
		return 0, api.OK
	}
	text := string(data)
	number, err := strconv.Atoi(text)
	// What is told once more in another way has a sign, or noughts ahead.
	if err != nil || number < 1 || number > api.MaxNumber || strconv.Itoa(number) != text {
		return 0, api.ErrCorrupt
	}
	return number, api.OK
}

// begin boots. Its number is durable ahead of its being used, so that no later boot, behind whatever crash, has the same. The file is read each time, for a boot that the disk refused may have left its number there.
func (a *Agent) begin() api.Errno {
	last, e := lastBoot(a.disk)
	if e != api.OK {
		return e
	}
	if last == api.MaxNumber {
		return api.ErrFull
	}
	if e := a.disk.Put(bootName, []byte(strconv.Itoa(last+1))); e != api.OK {
		return e
	}
	if e := a.disk.Sync(); e != api.OK {
		return e
	}
	a.boot = last + 1
	return api.OK
}

// giveUp ends all that it was registered for: it has to register anew, by another boot number.
func (a *Agent) giveUp() api.Errno {
	a.boot, a.epoch, a.tasks = 0, 0, nil
	return a.begin()
}
