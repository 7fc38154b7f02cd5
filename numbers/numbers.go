// Package numbers: whole numbers as bytes, the highest first.
package numbers

// Put fills a part with a number; the part's length says in how many bytes.
func Put(part []byte, v uint64) {
	for i := len(part) - 1; i >= 0; i-- {
		part[i] = byte(v)
		v >>= 8
	}
}

// Of tells the number that a part of at most eight bytes holds.
func Of(part []byte) uint64 {
	var v uint64
	for _, b := range part {
		v = v<<8 | uint64(b)
	}
	return v
}
