package parser

import "formfinder/api"

// token is a token with the word by which the grammar knows it.
type token struct {
	api.Token
	word string
}

// method reads a part of a source.
type method = func(r *reader) api.Node

// reader reads tokens, one after the other.
type reader struct {
	tokens []token // the last one stands for the end
	next   int     // the next token
	depth  int     // of the block or the expression that is read
	diags  []api.Diag

	// Methods by the first words of what they read.
	items, statements, expressions map[string]method
	signs                          map[string]uint64
}

func newReader(tokens []api.Token, end int) *reader {
	r := &reader{items: items(), statements: statements(), expressions: expressions(), signs: signs()}
	r.tokens = make([]token, 0, len(tokens)+1)
	for _, t := range tokens {
		r.tokens = append(r.tokens, token{t, wordOf(t)})
	}
	r.tokens = append(r.tokens, token{api.Token{At: end}, theEnd})
	return r
}

// word returns the word of the next token.
func (r *reader) word() string {
	return r.tokens[r.next].word
}

// here returns the offset of the next token.
func (r *reader) here() int {
	return r.tokens[r.next].At
}

// take reads the next token, which must have this word.
func (r *reader) take(word string) api.Token {
	if r.word() != word {
		r.fail(api.ErrSyntax)
	}
	t := r.tokens[r.next].Token
	r.next++
	return t
}

func (r *reader) name() string {
	return r.take(aName).Text
}

func (r *reader) width() int {
	return int(r.take(aType).N)
}

// begin reads the first token of a part, and returns the node of the part.
func (r *reader) begin(kind int, word string) api.Node {
	return api.Node{Kind: kind, At: r.take(word).At}
}

// choose returns the method for the next token.
func (r *reader) choose(methods map[string]method) method {
	read, found := methods[r.word()]
	if !found {
		r.fail(api.ErrSyntax)
	}
	return read
}

// nested reads a block or an expression: it is deeper than what it is part of.
func (r *reader) nested(read method) api.Node {
	if r.depth == api.MaxDepth {
		r.fail(api.ErrDeep)
	}
	r.depth++
	n := read(r)
	r.depth--
	return n
}
