package packet

import (
	"sync"

	"weir/api"
)

// reading is what was read of the frame with that number.
type reading struct {
	number int
	packet api.Packet
	e      api.Errno
}

// ParseAll reads frames side by side, by so many workers.
func ParseAll(workers int, frames ...[]byte) ([]api.Packet, []api.Errno, api.Errno) {
	if workers < 1 || workers > api.MaxWorkers {
		return nil, nil, api.ErrArg
	}
	if len(frames) > api.MaxBatch {
		return nil, nil, api.ErrBatch
	}
	packets, errnos := make([]api.Packet, len(frames)), make([]api.Errno, len(frames))
	for r := range readAll(workers, frames) {
		packets[r.number], errnos[r.number] = r.packet, r.e
	}
	return packets, errnos, api.OK
}

// readAll is a closed channel with what was read of each frame, in any order. Both channels have room for all frames, so that
// nobody waits for another, and all workers have ended behind Wait.
func readAll(workers int, frames [][]byte) <-chan reading {
	numbers, readings := make(chan int, len(frames)), make(chan reading, len(frames))
	for i := range frames {
		numbers <- i
	}
	close(numbers)
	var all sync.WaitGroup
	for range workers {
		all.Add(1)
		go func() {
			defer all.Done()
			for i := range numbers {
				p, e := Parse(frames[i])
				readings <- reading{i, p, e}
			}
		}()
	}
	all.Wait()
	close(readings)
	return readings
}
