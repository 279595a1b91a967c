package node

import (
	"slices"

	"penstock/api"
)

const slow = 6 // ticks within which a follower in sync asks, and has all that stood in the log ahead of them

// pace is what a leader knows of how its followers keep up, in one epoch. Where the log grows all the time nobody ever asks from its end; so a follower is held against where the end was a while ago.
type pace struct {
	begin int                // the log's end when the node began to lead
	ends  [slow]int          // the log's ends at the last ticks, the oldest one first
	from  [api.MaxNodes]int  // the farthest offset from which each node has asked (0: from none)
	ages  [api.MaxNodes]int  // ticks since each has asked
	asked [api.MaxNodes]bool // who has
}

func newPace(end int) pace {
	c := pace{begin: end}
	for i := range c.ends {
		c.ends[i] = end
	}
	return c
}

// tick lets the clock go on.
func (c *pace) tick(end int) {
	copy(c.ends[:], c.ends[1:])
	c.ends[slow-1] = end
	for id := range c.ages {
		c.ages[id]++
	}
}

// hear takes note that a follower has asked from an offset.
func (c *pace) hear(id, offset int) {
	c.from[id], c.ages[id], c.asked[id] = max(c.from[id], offset), 0, true
}

// keeps tells whether a follower keeps up.
func (c *pace) keeps(id int) bool {
	return c.asked[id] && c.ages[id] < slow && c.from[id] >= c.ends[0]
}

// has tells whether a follower has all that may be committed, as far as a leader with that high watermark knows.
func (c *pace) has(id, high int) bool {
	return c.from[id] >= max(high, c.begin)
}

// crew is who should be in sync with a leader, and who is about to be: who keeps up, but has less than what is committed.
type crew struct {
	list, near []int
}

// crewOf tells who should be in sync, of those on which a partition stands, or shall; those in sync now are that.
func (p *part) crewOf(stand, isr []int) crew {
	list, _ := p.log.Want(stand)
	c := crew{list: list}
	for _, id := range stand {
		switch {
		case slices.Contains(c.list, id) || !p.pace.keeps(id):
		case slices.Contains(isr, id) || p.pace.has(id, p.high()):
			c.list = append(c.list, id)
		default:
			c.near = append(c.near, id)
		}
	}
	slices.Sort(c.list)
	return c
}
