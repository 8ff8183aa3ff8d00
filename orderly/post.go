package orderly

import (
	"slices"

	"orderly/api"
)

// post is what other partitions send to one.
type post struct {
	mails [maxPartitions][]parcel // by the one that has sent them, the first one first
	taken []parcel                // out of the mails, of transactions that are not done here
}

// parcel is what a partition has kept for a transaction and has sent.
type parcel struct {
	from, txn int
	pairs     []api.Pair
}

func (p *post) underWay(from int) int { return len(p.mails[from]) }

func (p *post) join(sent parcel) {
	p.mails[sent.from] = append(p.mails[sent.from], sent)
}

// take does not ask whether the transaction was let in: what is sent may come ahead of that.
func (p *post) take(from int) bool {
	mail := p.mails[from]
	if len(mail) == 0 {
		return false
	}
	p.taken = append(p.taken, mail[0])
	p.mails[from] = slices.Delete(mail, 0, 1)
	return true
}

func (p *post) has(txn, from int) bool {
	return slices.ContainsFunc(p.taken, func(t parcel) bool { return t.txn == txn && t.from == from })
}

// brought is what others have sent for a transaction.
func (p *post) brought(txn int) []api.Pair {
	var list []api.Pair
	for _, t := range p.taken {
		if t.txn == txn {
			list = append(list, t.pairs...)
		}
	}
	return list
}

func (p *post) drop(txn int) {
	p.taken = slices.DeleteFunc(p.taken, func(t parcel) bool { return t.txn == txn })
}
