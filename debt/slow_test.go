package debt_test

import (
	"slices"

	"farebox/api"
)

// This file tells the chapter slowly, word by word: the accounts stand in a row, rising, and are gone through one by one.

type slow struct{ rows []api.Account }

// slowAmounts tells whether amounts are such as chapter 8 asks of an account.
func slowAmounts(charged, paid int) bool {
	return 0 <= paid && paid <= charged && charged <= 9007199254740992
}

// slowOpen is what P22.1 says of Open.
func slowOpen(l []api.Account) (*slow, api.Errno) {
	if len(l) > 1000 {
		return nil, 2
	}
	for i, a := range l {
		if len(a.Token) != 8 || !slowAmounts(a.Charged, a.Paid) {
			return nil, 80
		}
		if i > 0 && slices.Compare([]byte(l[i-1].Token), []byte(a.Token)) >= 0 {
			return nil, 220
		}
	}
	return &slow{slices.Clone(l)}, 0
}

// place is where a token's account stands, or would stand.
func (s *slow) place(token string) (int, bool) {
	for i, a := range s.rows {
		if order := slices.Compare([]byte(a.Token), []byte(token)); order >= 0 {
			return i, order == 0
		}
	}
	return len(s.rows), false
}

func (s *slow) account(token string) (api.Account, bool) {
	if i, is := s.place(token); is {
		return s.rows[i], true
	}
	return api.Account{}, false
}

func (s *slow) debt(token string) int {
	a, _ := s.account(token)
	return a.Charged - a.Paid
}

func (s *slow) listed(threshold int) []string {
	var l []string
	for _, a := range s.rows {
		if a.Charged-a.Paid > threshold {
			l = append(l, a.Token)
		}
	}
	return l
}

// set is what P22.3 says.
func (s *slow) set(token string, charged int) (int, int, api.Errno) {
	if len(token) != 8 || charged < 0 || charged > 9007199254740992 {
		return 0, 0, 220
	}
	i, is := s.place(token)
	if !is && len(s.rows) == 1000 {
		return 0, 0, 2
	}
	if !is {
		s.rows = slices.Insert(s.rows, i, api.Account{Token: token})
	}
	a := &s.rows[i]
	more, back := charged-a.Charged, 0
	a.Charged = charged
	if a.Paid > charged {
		back = a.Paid - charged
		a.Paid = charged
	}
	return more, back, 0
}

// pay is what P22.4 says.
func (s *slow) pay(token string, amount int) api.Errno {
	i, is := s.place(token)
	if !is || amount < 1 || amount > s.rows[i].Charged-s.rows[i].Paid {
		return 220
	}
	s.rows[i].Paid += amount
	return 0
}
