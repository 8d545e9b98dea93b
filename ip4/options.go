package ip4

import (
	"weir/api"
	"weir/option"
)

// Options reads options.
func Options(b []byte) ([]api.Opt, api.Errno) {
	l, ok := option.Read(b)
	if !ok {
		return nil, api.ErrIp4Option
	}
	return l, api.OK
}

// PutOptions writes options, padded.
func PutOptions(l []api.Opt) ([]byte, api.Errno) {
	b, ok := option.Put(l)
	if !ok {
		return nil, api.ErrIp4Option
	}
	return b, api.OK
}
