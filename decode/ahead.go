package decode

import (
	"confluence/api"
	"confluence/wal"
)

// Ahead reads so many records at once; the messages of all, in their order.
func (d *Decoder) Ahead(n int) ([]string, api.Errno) {
	if n < 1 {
		return nil, api.ErrArg
	}
	places, records, end := make(chan int), make(chan found), make(chan api.Errno)
	go readEach(d.log, places, records, end)
	defer func() {
		close(places)
		for range records {
			// The one that reads closes them as the last thing that it does.
		}
	}()
	return d.steps(n, func() (found, api.Errno) {
		places <- d.place
		select {
		case r := <-records:
			return r, api.OK
		case e := <-end:
			return found{}, e
		}
	})
}

// readEach reads a record at each place that comes, until none comes any more, or there is nothing to be read: it tells why.
// It does not run ahead of whoever asks: the disk that it reads may be the one into which what is too much is written.
func readEach(l *wal.Log, places <-chan int, records chan<- found, end chan<- api.Errno) {
	defer close(records)
	for place := range places {
		r, e := read(l, place)
		if e != api.OK {
			end <- e
			return
		}
		records <- r
	}
}

// steps does so many steps, or those ahead of the first one that answers an error; the messages of all.
func (d *Decoder) steps(n int, next func() (found, api.Errno)) ([]string, api.Errno) {
	var told []string
	for i := range n {
		l, e := d.step(next)
		if e != api.OK && i == 0 {
			return nil, e
		}
		if e != api.OK {
			break
		}
		told = append(told, l...)
	}
	return told, api.OK
}
