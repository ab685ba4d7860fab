package journal

import (
	"nostro/api"
	"nostro/disk"
	"nostro/frame"
)

// readSnapshot takes the snapshot that the disk keeps, or none: ErrSum if it is corrupt.
func (j *Journal) readSnapshot() api.Errno {
	file, err := j.disk.Read(snapFile)
	if err != api.OK || file == "" {
		return err
	}
	frames, _, behind := frame.Scan(file)
	if len(frames) != 1 || behind != frame.Whole {
		return api.ErrSum
	}
	snapshot, ok := read(frames[0])
	if !ok {
		return api.ErrSum
	}
	j.snapshot = snapshot
	return api.OK
}

// readLog takes the records behind the snapshot that the disk keeps, and tells how many bytes all the log's frames
// have: ErrSum if the log is corrupt.
func (j *Journal) readLog() (int, api.Errno) {
	file, err := j.disk.Read(logFile)
	if err != api.OK {
		return 0, err
	}
	frames, size, behind := frame.Scan(file)
	if behind == frame.Bad {
		return 0, api.ErrSum
	}
	log, ok := readAll(frames)
	if !ok || !inRow(log, j.snapshot.number) {
		return 0, api.ErrSum
	}
	for _, record := range log {
		// The others are in the snapshot: the power went ahead of the log's cut.
		if record.number > j.snapshot.number {
			j.records = append(j.records, record.text)
		}
	}
	return size, api.OK
}

// inRow tells whether the log's numbers rise by 1 each, from one on that leaves none out behind the snapshot's.
func inRow(log []entry, snapshot int) bool {
	for at, record := range log {
		if record.number != log[0].number+at {
			return false
		}
	}
	return len(log) == 0 || log[0].number >= 1 && log[0].number <= snapshot+1
}

// shorten cuts a file to its first bytes, if there are more: what needn't be cut needs no power.
func shorten(d *disk.Disk, file, size int) api.Errno {
	b, err := d.Read(file)
	if err != api.OK || len(b) <= size {
		return err
	}
	return d.Cut(file, size)
}
