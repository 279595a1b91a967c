package image

import (
	"penstock/api"
	"penstock/codec"
)

// Encode writes a command.
func Encode(c api.Cmd) ([]byte, api.Errno) {
	if !isCmd(c) {
		return nil, api.ErrArg
	}
	w := codec.NewWriter()
	w.Int(c.Kind)
	w.Int(c.Node)
	w.Int(c.Part)
	w.Int(c.Epoch)
	w.Int(c.Version)
	w.Ints(c.List)
	return w.Out()
}

// Decode reads a command.
func Decode(text []byte) (api.Cmd, api.Errno) {
	r := codec.NewReader(text)
	c := api.Cmd{
		Kind:    r.Int(),
		Node:    r.Int(),
		Part:    r.Int(),
		Epoch:   r.Int(),
		Version: r.Int(),
		List:    r.Ints(),
	}
	if e := r.End(); e != api.OK {
		return api.Cmd{}, e
	}
	if !isCmd(c) {
		return api.Cmd{}, api.ErrArg
	}
	return c, api.OK
}

// isCmd tells whether that is a command at all, whatever the image.
func isCmd(c api.Cmd) bool {
	return api.CJoin <= c.Kind && c.Kind <= api.CBlock && len(c.List) <= api.MaxNodes
}
