package parse

import (
	"avow/api"
	"avow/lex"
)

// reader goes through a text's tokens from the left. The end, which is the last of them, is never taken.
type reader struct {
	tokens []api.Token
	place  int // of the next token, among tokens
	depth  int // of the innermost part that counts and is being read
}

// refusal: what is thrown where a text can't be read any further: no rule above has anything to do with it.
type refusal struct {
	at  int
	err api.Errno
}

// read has rule read a text, and tells why it can't be read; then rule hasn't come to its end.
func read(text string, rule func(*reader)) (wrong error) {
	tokens, err := lex.Tokens(text)
	if err != nil {
		return err
	}
	defer func() {
		if thrown := recover(); thrown != nil {
			why := thrown.(refusal)
			wrong = &api.PlaceError{At: why.at, Err: why.err}
		}
	}()
	rule(&reader{tokens: tokens})
	return nil
}

// refused tells the refusal of the next token.
func (r *reader) refused(err api.Errno) refusal {
	return refusal{at: r.next().At, err: err}
}

func (r *reader) next() api.Token { return r.tokens[r.place] }

// behindName tells the token behind the next one, which is a name, and so not the end.
func (r *reader) behindName() api.Token { return r.tokens[r.place+1] }

// sees tells whether the next token is that word or sign. Its text says so: no name, no number and no end has the text of one.
func (r *reader) sees(text string) bool { return r.next().Text == text }

func (r *reader) seesOneOf(texts ...string) bool {
	for _, s := range texts {
		if r.sees(s) {
			return true
		}
	}
	return false
}

// take tells the next token, which the caller has seen not to be the end, and goes on behind it.
func (r *reader) take() api.Token {
	out := r.next()
	r.place++
	return out
}

// takeIf takes the next token, if it is that word or sign.
func (r *reader) takeIf(text string) bool {
	if !r.sees(text) {
		return false
	}
	r.take()
	return true
}

// must takes that word or sign: nothing else may stand there.
func (r *reader) must(text string) {
	if !r.takeIf(text) {
		panic(r.refused(api.ErrParse))
	}
}

// mustBe takes a token of that kind: nothing else may stand there.
func (r *reader) mustBe(tok int) api.Token {
	if r.next().Tok != tok {
		panic(r.refused(api.ErrParse))
	}
	return r.take()
}

func (r *reader) mustEnd() {
	if r.next().Tok != api.TokEnd {
		panic(r.refused(api.ErrParse))
	}
}
