package policy

import (
	"turnstile/api"
	"turnstile/gcra"
	"turnstile/window"
)

// rule is what the policies of one kind go by. All that its functions answer as a level is in form.
type rule struct {
	valid  func(p api.Policy) bool
	form   func(v api.Level) api.Level
	admit  func(p api.Policy, v api.Level, now uint64, n uint64) (api.Level, bool)
	retry  func(p api.Policy, v api.Level, now uint64, n uint64) uint64
	left   func(p api.Policy, v api.Level, now uint64) uint64
	covers func(c api.Level, v api.Level) bool
}

// rules has both rules in the places of their kinds.
func rules() [api.Grid + 1]rule {
	return [...]rule{
		api.Flow: {flowValid, flowForm, flowAdmit, flowRetry, flowLeft, flowCovers},
		api.Grid: {gridValid, gridForm, gridAdmit, gridRetry, gridLeft, gridCovers},
	}
}

// ruleOf is the rule of p; false if p isn't valid.
func ruleOf(p api.Policy) (rule, bool) {
	if p.Kind < api.Flow || p.Kind > api.Grid {
		return rule{}, false
	}
	r := rules()[p.Kind]
	if !r.valid(p) {
		return rule{}, false
	}
	return r, true
}

func flowValid(p api.Policy) bool {
	return p.Gap >= 1 && p.Limit == 0 && p.Span == 0
}

func flowForm(v api.Level) api.Level {
	return api.Level{Tat: v.Tat}
}

func flowAdmit(p api.Policy, v api.Level, now uint64, n uint64) (api.Level, bool) {
	tat, ok := gcra.Admit(p.Gap, p.Slack, v.Tat, now, n)
	return api.Level{Tat: tat}, ok
}

func flowRetry(p api.Policy, v api.Level, now uint64, n uint64) uint64 {
	return gcra.Retry(p.Gap, p.Slack, v.Tat, now, n)
}

func flowLeft(p api.Policy, v api.Level, now uint64) uint64 {
	return gcra.Burst(p.Gap, p.Slack, v.Tat, now)
}

func flowCovers(c api.Level, v api.Level) bool {
	return v.Tat <= c.Tat
}

func gridValid(p api.Policy) bool {
	return p.Span >= 1 && p.Gap == 0 && p.Slack == 0
}

func gridForm(v api.Level) api.Level {
	return api.Level{Index: v.Index, Count: v.Count}
}

func gridAdmit(p api.Policy, v api.Level, now uint64, n uint64) (api.Level, bool) {
	index, count, ok := window.Admit(p.Limit, p.Span, v.Index, v.Count, now, n)
	return api.Level{Index: index, Count: count}, ok
}

func gridRetry(p api.Policy, v api.Level, now uint64, n uint64) uint64 {
	return window.Retry(p.Limit, p.Span, v.Index, v.Count, now, n)
}

func gridLeft(p api.Policy, v api.Level, now uint64) uint64 {
	return window.Left(p.Limit, p.Span, v.Index, v.Count, now)
}

func gridCovers(c api.Level, v api.Level) bool {
	return v.Index < c.Index || v.Index == c.Index && v.Count <= c.Count
}
