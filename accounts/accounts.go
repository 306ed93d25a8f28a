// Package accounts keeps what each has, free and held.
package accounts

// Good is what an account holds.
type Good int

const (
	Cash Good = iota
	Units
	goods
)

// Holding is what one has of a good.
type Holding struct {
	Free, Held int
}

// Account is what one has of each good.
type Account [goods]Holding

// Accounts are by their owners' numbers. Who never had anything needs no entry: the account that a map answers then is the empty one.
type Accounts map[int]Account

// Total is what all have of a good together, free and held.
func (a Accounts) Total(g Good) int {
	sum := 0
	for _, account := range a {
		sum += account[g].Free + account[g].Held
	}
	return sum
}

// Put gives the owner n more, free.
func (a Accounts) Put(owner int, g Good, n int) { a.change(owner, g, n, 0) }

// Take takes n from what the owner has free.
func (a Accounts) Take(owner int, g Good, n int) { a.change(owner, g, -n, 0) }

// Hold makes n of what is free held.
func (a Accounts) Hold(owner int, g Good, n int) { a.change(owner, g, -n, n) }

// Release makes n of what is held free again.
func (a Accounts) Release(owner int, g Good, n int) { a.change(owner, g, n, -n) }

func (a Accounts) change(owner int, g Good, free, held int) {
	account := a[owner]
	account[g].Free += free
	account[g].Held += held
	a[owner] = account
}
