package rule

import (
	"slices"

	"manciple/api"
	"manciple/recipe"
)

func (w *work) open() api.Reply {
	p := w.look(Purse(w.Who))
	deny(p.is, api.ErrRuleThere)
	w.amount(p.key, 0)
	return api.Reply{A: uint64(w.Who)}
}

// mint is OpMint and OpSink.
func (w *work) mint() api.Reply {
	p := w.there(Purse(w.Who))
	if w.Kind == api.OpMint {
		p.A = more(p.A, w.N)
	} else {
		p.A = less(p.A, w.N)
	}
	w.amount(p.key, p.A)
	return api.Reply{A: p.A}
}

// create is OpMake and OpUse.
func (w *work) create() api.Reply {
	w.there(Purse(w.Who))
	s := w.look(Stack(w.Who, w.What))
	if w.Kind == api.OpMake {
		s.A = more(s.A, w.N)
	} else {
		s.A = less(s.A, w.N)
	}
	w.amount(s.key, s.A)
	return api.Reply{A: s.A}
}

// deposit is OpDeposit and OpDraw.
func (w *work) deposit() api.Reply {
	purse := w.there(Purse(w.Who))
	bank := w.look(Bank(w.Who))
	from, to := &purse, &bank
	if w.Kind == api.OpDraw {
		from, to = to, from
	}
	from.A = less(from.A, w.N)
	to.A = more(to.A, w.N)
	w.amount(purse.key, purse.A)
	w.amount(bank.key, bank.A)
	return api.Reply{A: purse.A, B: bank.A}
}

func (w *work) pay() api.Reply {
	w.there(Purse(w.Whom))
	return w.move(Bank(w.Who), Bank(w.Whom))
}

func (w *work) give() api.Reply {
	w.there(Purse(w.Who))
	w.there(Purse(w.Whom))
	return w.move(Stack(w.Who, w.What), Stack(w.Whom, w.What))
}

// move makes N less of the one, and more of the other.
func (w *work) move(from, to api.Key) api.Reply {
	left := less(w.look(from).A, w.N)
	sum := more(w.look(to).A, w.N)
	w.amount(from, left)
	w.amount(to, sum)
	return api.Reply{A: left}
}

func (w *work) craft() api.Reply {
	r, err := recipe.Needs(w.What, w.N)
	deny(err != api.OK, err)
	w.there(Purse(w.Who))
	var stacks []thing
	items := itemsOf(r)
	for _, n := range items {
		stacks = append(stacks, w.look(Stack(w.Who, n)))
	}
	for i, n := range items {
		in, _ := recipe.Change(w.What, w.N, n)
		stacks[i].A = less(stacks[i].A, in)
	}
	for i, n := range items {
		_, out := recipe.Change(w.What, w.N, n)
		stacks[i].A = more(stacks[i].A, out)
	}
	for _, s := range stacks {
		w.amount(s.key, s.A)
	}
	return api.Reply{A: w.N}
}

// itemsOf are all items of a recipe, rising.
func itemsOf(r api.Recipe) []uint32 {
	var items []uint32
	for _, s := range slices.Concat(r.In, r.Out) {
		items = append(items, s.Item)
	}
	slices.Sort(items)
	return slices.Compact(items)
}

// lookAt is OpLook.
func (w *work) lookAt() api.Reply {
	purse := w.there(Purse(w.Who))
	bank := w.look(Bank(w.Who))
	stack := w.look(Stack(w.Who, w.What))
	return api.Reply{A: purse.A, B: bank.A, C: stack.A}
}
