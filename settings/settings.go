// Package settings tells which settings of a cluster may be: see shared/doc/19-client.md. It stands beside the layers, since nodes are handed the settings as well as clients, and layer 18 can't ask layer 19.
package settings

import (
	"slices"

	"penstock/api"
)

const maxGroup = api.MaxTxs - 1

// Check is ErrArg, if these are no settings; else OK.
func Check(c api.Config) api.Errno {
	fine := 1 <= c.Nodes && c.Nodes <= api.MaxNodes &&
		1 <= c.Parts && c.Parts <= api.MaxParts &&
		1 <= c.Copies && c.Copies <= c.Nodes &&
		len(c.Clients) <= api.MaxClients
	odd := func(p api.Program) bool { return !isProgram(p, c.Parts) }
	if !fine || slices.ContainsFunc(c.Clients, odd) {
		return api.ErrArg
	}
	return api.OK
}

// isProgram tells whether a client may have that program, where there are so many data partitions.
func isProgram(p api.Program, parts int) bool {
	odd := func(o api.Op) bool { return !isOp(o, parts) }
	return 0 <= p.Group && p.Group <= maxGroup && len(p.Ops) <= api.MaxOps && !slices.ContainsFunc(p.Ops, odd)
}

// isOp tells whether that is an operation; all of it counts, whatever its kind uses.
func isOp(o api.Op, parts int) bool {
	return api.OSend <= o.Kind && o.Kind <= api.OCopy &&
		0 <= o.Part && o.Part < parts &&
		0 <= o.To && o.To < parts &&
		0 <= o.Count && o.Count <= api.MaxValues &&
		len(o.Value) <= api.MaxValue
}
