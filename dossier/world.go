package dossier

import "leadlight/api"

// worldActions are the commands of the table The world.
func worldActions() map[string]action {
	return map[string]action{
		"sync":    step(1, func(a []int) api.Event { return api.Event{Kind: api.EventSync, Bench: a[0]} }),
		"ask":     step(2, func(a []int) api.Event { return api.Event{Kind: api.EventAsk, Bench: a[0], To: a[1]} }),
		"deliver": step(1, func(a []int) api.Event { return api.Event{Kind: api.EventDeliver, Index: a[0]} }),
		"lose":    step(1, func(a []int) api.Event { return api.Event{Kind: api.EventLose, Index: a[0]} }),
		"double":  step(1, func(a []int) api.Event { return api.Event{Kind: api.EventDouble, Index: a[0]} }),
		"arrive":  step(1, func(a []int) api.Event { return api.Event{Kind: api.EventArrive, Index: a[0]} }),
		"crash":   step(3, func(a []int) api.Event { return api.Event{Kind: api.EventCrash, Bench: a[0], Keep: a[1], Flip: a[2]} }),
		"settle":  late(exactly(0), (*console).settle),
	}
}

// step returns the action of a command with n numbers that lets an event happen.
func step(n int, event func(a []int) api.Event) action {
	return late(exactly(n), func(c *console, a []int) (string, api.Errno) { return "", c.world.Step(event(a)) })
}

func (s *state) settle([]int) (string, api.Errno) { return "", s.world.Settle() }
