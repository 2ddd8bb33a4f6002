package stab_test

import (
	"testing"

	"confluence/api"
	"confluence/stab"
)

// The members that are handed to New stay as they are, and changing them behind it doesn't change the table.
func TestMembersThatAreHandedInStay(t *testing.T) {
	for _, was := range allMembers() {
		has := was
		b, _ := stab.New(0, 1, has)
		for dc := range 4 {
			b.Join(dc, 2*dc+1)
			b.Leave((dc+1)%4, 2*dc+2)
		}
		if has != was {
			t.Errorf("R3: calls made of the members %v that were handed in %v", was, has)
		}
		b, _ = stab.New(0, 1, has)
		for dc := range has {
			has[dc] = !has[dc]
		}
		if is := b.Members(); is != was {
			t.Errorf("R3: New's members were changed behind it, and the table's are %v, not %v", is, was)
		}
	}
}

// The members that are answered are new ones each time.
func TestMembersThatAreAnsweredStay(t *testing.T) {
	for _, was := range allMembers() {
		b, _ := stab.New(0, 1, was)
		one, other := b.Members(), b.Members()
		for dc := range one {
			one[dc] = !one[dc]
		}
		if other != was || b.Members() != was {
			t.Errorf("R3: members that were answered are changed, and others are %v, the table's %v, not %v", other, b.Members(), was)
		}
		b.Leave(0, 1)
		b.Join(1, 2)
		b.Leave(2, 3)
		b.Join(3, 4)
		if other != was {
			t.Errorf("R3: behind calls, members that were answered ahead of them are %v, not %v", other, was)
		}
	}
}

// Two tables have nothing of each other, and what the one tells doesn't hang on what the other is asked.
func TestTablesAreApart(t *testing.T) {
	n := numbers(51)
	for range 200 {
		has := allMembers()[n.below(16)]
		one, other := made(t, 1, 2, has), made(t, 2, 2, has)
		one.promise, other.promise = "R2", "R2"
		p, q := newPlain(1, 2, has), newPlain(2, 2, has)
		for range 100 {
			c := anyCall(&n, p)
			one.refused(c, p.of(c))
			other.want(q.known())
			c = anyCall(&n, q)
			other.refused(c, q.of(c))
			one.want(p.known())
		}
		if t.Failed() {
			return
		}
	}
}

// The same calls answer the same again, whether the table is asked in between or not.
func TestAskingChangesNothing(t *testing.T) {
	n := numbers(52)
	for range 400 {
		has, own, nodes := allMembers()[n.below(16)], n.below(4), 1+n.below(4)
		p := newPlain(own, nodes, has)
		asked, silent := made(t, own, nodes, has), made(t, own, nodes, has)
		asked.promise, silent.promise = "R2", "R2"
		for range 60 {
			c := anyCall(&n, p)
			e := p.of(c)
			for range n.below(4) {
				asked.Local()
				asked.Applied()
				asked.Stable()
				asked.Members()
			}
			asked.refused(c, e)
			silent.refused(c, e)
		}
		asked.want(p.known())
		silent.want(p.known())
		if t.Failed() {
			return
		}
	}
}

// A call that has an error changes nothing that a later call can tell.
func TestErrorsChangeNothing(t *testing.T) {
	n := numbers(53)
	for range 200 {
		has, own := allMembers()[n.below(16)], n.below(4)
		p := newPlain(own, 1, has)
		right := made(t, own, 1, has)
		wrong := made(t, own, 1, has)
		right.promise, wrong.promise = "R6", "R6"
		for range 100 {
			c := anyCall(&n, p)
			e := p.of(c)
			wrong.refused(c, e)
			if e == api.OK {
				right.refused(c, e)
			}
			if look(right.Table) != look(wrong.Table) {
				t.Fatalf("R6: behind %s the table tells %s; without the calls that have errors %s", wrong.story(), look(wrong.Table), look(right.Table))
			}
		}
	}
}
