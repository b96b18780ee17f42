package node

import (
	"slices"

	"thermograph/api"
	"thermograph/bootstrap"
	"thermograph/placement"
)

// job is something for which the node asks others for the data of a shard.
type job interface {
	of(space, number int) bool
	place() (space, number int)
	wanted() []int
	give(peer int, l []api.Series) ([]api.Series, bool) // what is to be kept then, if it suffices
	restart()
	finish()
	ready() bool
	lasting() bool // it stays in the list when it is ready
}

// common is what all jobs have.
type common struct {
	space, number int
	done          bool
}

func (c *common) of(space, number int) bool { return c.space == space && c.number == number }
func (c *common) place() (int, int)         { return c.space, c.number }
func (c *common) finish()                   { c.done = true }
func (c *common) ready() bool               { return c.done }

// bootJob brings in a shard that the node is to own.
type bootJob struct {
	common
	boot  *bootstrap.Boot
	start func() *bootstrap.Boot
}

func (j *bootJob) wanted() []int { return j.boot.Wants() }
func (j *bootJob) restart()      { j.boot = j.start() }
func (j *bootJob) lasting() bool { return true }

// finish lets go of the points, which the shard has by now.
func (j *bootJob) finish() {
	j.common.finish()
	j.boot = nil
}

func (j *bootJob) give(peer int, l []api.Series) ([]api.Series, bool) {
	j.boot.Got(peer, l)
	if !j.boot.Done() {
		return nil, false
	}
	return j.boot.Series(), true
}

// repairJob brings in what one peer has.
type repairJob struct {
	common
	peer int
}

func (j *repairJob) wanted() []int { return []int{j.peer} }
func (j *repairJob) restart()      {}
func (j *repairJob) lasting() bool { return false }

func (j *repairJob) give(peer int, l []api.Series) ([]api.Series, bool) { return l, true }

// Ready returns the shards that the node has brought in for all namespaces.
func (n *Node) Ready() []int {
	var out []int
	for number := range n.c.Shards {
		all := true
		for space := range n.c.Spaces {
			all = all && booted(n.jobs, space, number)
		}
		if all {
			out = append(out, number)
		}
	}
	return out
}

// Repair appends a job to bring in what another owner has.
func (n *Node) Repair(space, number, peer int) api.Errno {
	if space < 0 || space >= len(n.c.Spaces) {
		return api.ErrSpace
	}
	if number < 0 || number >= n.c.Shards || !n.available(number, n.me) {
		return api.ErrShard
	}
	if peer == n.me || !n.available(number, peer) {
		return api.ErrNodes
	}
	n.jobs = append(n.jobs, &repairJob{common: common{space: space, number: number}, peer: peer})
	return api.OK
}

func (n *Node) available(number, node int) bool {
	owner, ok := placement.Find(n.known, number, node)
	return ok && owner.State == api.Available
}

// newBoot returns a job for a shard of the known placement.
func (n *Node) newBoot(space, number int, done bool) job {
	start := func() *bootstrap.Boot {
		b, _ := bootstrap.New(n.known, number, n.me, api.Range{From: 0, To: wholeTime})
		return b
	}
	j := &bootJob{common: common{space: space, number: number, done: done}, start: start}
	if !done {
		j.restart()
	}
	return j
}

// current returns the first job that is not ready, or nil.
func (n *Node) current() job {
	for _, j := range n.jobs {
		if !j.ready() {
			return j
		}
	}
	return nil
}

// end removes the jobs that are ready and need not be known of any more.
func (n *Node) end() {
	n.jobs = slices.DeleteFunc(n.jobs, func(j job) bool { return j.ready() && !j.lasting() })
}

// booted reports whether a shard of a namespace has been brought in.
func booted(jobs []job, space, number int) bool {
	return slices.ContainsFunc(jobs, func(j job) bool { return j.lasting() && j.of(space, number) && j.ready() })
}
