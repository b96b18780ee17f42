package session

import (
	"slices"

	"thermograph/api"
	"thermograph/merge"
	"thermograph/wire"
)

const majority = 2 // of three slots

// operation is a write or a read. Once it is completed, it has its result alone.
type operation struct {
	result  Result
	request wire.Message
	slots   [][]int           // their members
	answers map[int]api.Errno // by node
	first   api.Errno         // of the first answer with an error
	effect  func(from int, m wire.Message)
	view    func(nodes []int) []api.Point // of what the nodes have answered
}

func newWrite(request wire.Message) *operation {
	return &operation{
		result:  Result{State: Pending},
		request: request,
		answers: map[int]api.Errno{},
		effect:  func(from int, m wire.Message) {},
		view:    func(nodes []int) []api.Point { return nil },
	}
}

func newRead(request wire.Message) *operation {
	op := newWrite(request)
	told := map[int][]api.Point{}
	op.effect = func(from int, m wire.Message) { told[from] = m.Points }
	op.view = func(nodes []int) []api.Point {
		var lists [][]api.Point
		for _, n := range nodes {
			lists = append(lists, merge.Cut(told[n], request.R))
		}
		return merge.Merge(lists)
	}
	return op
}

// missing returns the targets that have not answered, in increasing order.
func (op *operation) missing() []int {
	var out []int
	for _, n := range slices.Concat(op.slots...) {
		if _, ok := op.answers[n]; !ok {
			out = append(out, n)
		}
	}
	slices.Sort(out)
	return out
}

// awaits reports whether an answer of this kind is missing from the node.
func (op *operation) awaits(kind, from int) bool {
	return op.result.State == Pending && kind == op.request.Kind+1 && slices.Contains(op.missing(), from)
}

// hear takes an answer that was missing.
func (op *operation) hear(from int, m wire.Message) {
	op.answers[from] = m.Err
	if m.Err == api.OK {
		op.effect(from, m)
	} else if op.first == api.OK {
		op.first = m.Err
	}
	var holding []int
	held, lost := 0, 0
	for _, members := range op.slots {
		switch {
		case op.failed(members):
			lost++
		case op.held(members):
			held++
			holding = append(holding, members...)
		}
	}
	if held >= majority {
		*op = operation{result: Result{State: Succeeded, Points: op.view(holding)}}
	} else if lost >= majority {
		*op = operation{result: Result{State: Failed, Err: op.first}}
	}
}

// held reports whether all members have answered without an error.
func (op *operation) held(members []int) bool {
	return !slices.ContainsFunc(members, func(n int) bool {
		err, ok := op.answers[n]
		return !ok || err != api.OK
	})
}

// failed reports whether a member has answered with an error.
func (op *operation) failed(members []int) bool {
	return slices.ContainsFunc(members, func(n int) bool { return op.answers[n] != api.OK })
}
