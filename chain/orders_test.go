package chain_test

import (
	"fmt"
	"slices"
	"testing"

	"confluence/api"
	"confluence/chain"
)

// putAll puts versions one by one, the list being a chain from one to the next.
func putAll(t *testing.T, l []api.Ver) []api.Ver {
	t.Helper()
	var got []api.Ver
	for i, v := range l {
		next, e := chain.Put(got, v)
		if e != api.OK {
			t.Fatalf("P9.2: of %s, Put of %s has error %d", told(l), quoted(v), e)
		}
		if len(next) != i+1 {
			t.Fatalf("P9.2: of %s, %d versions were put, but there are %s", told(l), i+1, told(next))
		}
		wantChain(t, "P9.2", fmt.Sprintf("Put(%s, %s)", told(got), quoted(v)), next)
		got = next
	}
	return got
}

// orders goes through all orders of a list, by changes of two of its places.
func orders(l []api.Ver, at int, do func(l []api.Ver)) {
	if at >= len(l)-1 {
		do(l)
		return
	}
	for i := at; i < len(l); i++ {
		l[at], l[i] = l[i], l[at]
		orders(l, at+1, do)
		l[at], l[i] = l[i], l[at]
	}
}

func TestAllOrdersOfFew(t *testing.T) {
	for _, l := range chains() {
		if len(l) > 7 {
			l = l[:7]
		}
		count := 0
		orders(own(l), 0, func(turned []api.Ver) {
			count++
			wantList(t, "P9.2", "what was put in the order "+told(turned), putAll(t, turned), api.OK, l)
		})
		if want := []int{1, 1, 2, 6, 24, 120, 720, 5040}[len(l)]; count != want {
			t.Errorf("P9.2: %d orders of %s", count, told(l))
		}
	}
}

func TestManyOrdersOfMany(t *testing.T) {
	r, l := numbers(2), rising(90)
	for range 150 {
		turned := r.shuffled(l)
		wantList(t, "P9.2", "what was put in the order "+told(turned), putAll(t, turned), api.OK, l)
	}
	turned := own(l)
	slices.Reverse(turned)
	wantList(t, "P9.2", "what was put from the last one on", putAll(t, turned), api.OK, l)
	wantList(t, "P9.2", "what was put from the first one on", putAll(t, l), api.OK, l)
}

// Joined in any order they are the same too.
func TestOrdersOfJoin(t *testing.T) {
	r, l := numbers(4), rising(60)
	for range 100 {
		turned := r.shuffled(l)
		cut := r.below(len(l))
		a := putAll(t, turned[:cut])
		wantJoined(t, "P9.2", a, turned[cut:], l)
		wantJoined(t, "P9.2", nil, turned, l)
		wantJoined(t, "P9.2", a, turned, l)
	}
}

// Put into a chain leaves a chain, also where versions come more than once.
func TestPutIntoChainsLeavesChains(t *testing.T) {
	for _, l := range chains() {
		for _, v := range newcomers(l) {
			if got, e := chain.Put(l, v); e == api.OK {
				wantChain(t, "P9.2", fmt.Sprintf("Put(%s, %s)", told(l), quoted(v)), got)
			}
		}
	}
	r, l := numbers(6), rising(25)
	for range 50 {
		var got []api.Ver
		for _, v := range r.shuffled(slices.Concat(l, l, l[5:20])) {
			next, e := chain.Put(got, v)
			if slices.Contains(got, v) {
				wantRefused(t, "P9.2", fmt.Sprintf("Put(%s, %s)", told(got), quoted(v)), next, e, api.ErrThere)
				continue
			}
			if e != api.OK {
				t.Fatalf("P9.2: Put(%s, %s) has error %d", told(got), quoted(v), e)
			}
			got = next
		}
		wantList(t, "P9.2", "what was put more than once", got, api.OK, l)
	}
}
