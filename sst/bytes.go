package sst

import (
	"clerestory/api"
	"clerestory/order"
)

// putNum is a number behind bytes.
func putNum(b []byte, v int) []byte {
	// Num is asked for the number alone: behind b it would make all of b anew
	return append(b, order.Num(nil, uint64(v))...)
}

// putText is a text behind bytes.
func putText(b []byte, s string) []byte {
	return append(putNum(b, len(s)), s...)
}

// reader goes over bytes from the front on: num and text are what comes next, and done tells whether all was read, and right. Behind what is wrong all is nought.
func reader(b []byte) (num func() int, text func() string, done func() bool) {
	at, ok := 0, true
	num = func() int {
		v, next, e := order.GetNum(b, at)
		// no file has more of anything than it has bytes
		if e != api.OK || v > api.MaxFile {
			ok = false
		}
		if !ok {
			return 0
		}
		at = next
		return int(v)
	}
	text = func() string {
		n := num()
		if n > len(b)-at {
			ok = false
			return ""
		}
		from := at
		at += n
		return string(b[from:at])
	}
	done = func() bool {
		return ok && at == len(b)
	}
	return num, text, done
}
