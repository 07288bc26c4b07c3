package parser_test

import (
	"regexp"
	"slices"
	"strconv"
	"strings"

	"formfinder/api"
	"formfinder/lexer"
)

// chapter is the grammar as the chapter says it.
const chapter = `
program = { item } "parse" block
item    = "struct" name "{" name ":" type { "," name ":" type } "}"
        | "func" name "(" [ name ":" type { "," name ":" type } ] ")" type block
block   = "{" { stmt } "}"
stmt    = "let" name "=" expr ";" | name "=" expr ";" | name "[" expr "]" "=" expr ";" | name "." name "=" expr ";"
        | "new" name ":" type "[" expr "]" ";" | "make" name ":" name ";" | "free" name ";" | "same" name "=" name ";"
        | "if" expr block [ "else" block ] | "while" expr block | "emit" name "=" expr ";"
        | "accept" ";" | "reject" number ";" | "return" expr ";"
expr    = number ":" type | name | name "[" expr "]" | name "." name | name "(" [ expr { "," expr } ] ")"
        | "in" "[" expr "]" | "len" | "(" expr sign expr ")" | "~" expr | type "(" expr ")" | "sext" type "(" expr ")"
sign    = "+" | "-" | "*" | "/" | "%" | "&" | "|" | "^" | "<<" | ">>" | "==" | "!=" | "<" | "<=" | ">" | ">=" | "slt"
`

// keyWords are those that the chapter lists.
var keyWords = strings.Fields("struct func parse let new make free same if else while emit accept reject return in len sext slt")

// symbol is a part of a rule: a quoted word or a sort of tokens, another rule, or a group that may be missing.
type symbol struct {
	word   string
	rule   string
	group  [][]*symbol
	repeat bool // the group may occur any number of times
}

// grammar has the alternatives of each rule.
type grammar map[string][][]*symbol

var rules = readGrammar(chapter)

func readGrammar(text string) grammar {
	g := grammar{}
	heads := regexp.MustCompile(`(?m)^(\w+) += `).FindAllStringSubmatchIndex(text, -1)
	for i, h := range heads {
		end := len(text)
		if i+1 < len(heads) {
			end = heads[i+1][0]
		}
		words := regexp.MustCompile(`"[^"]*"|\S+`).FindAllString(text[h[1]:end], -1)
		alternatives, _ := readAlternatives(words)
		g[text[h[2]:h[3]]] = alternatives
	}
	return g
}

// readAlternatives reads words up to the end of a group, and returns those behind it.
func readAlternatives(words []string) ([][]*symbol, []string) {
	l := [][]*symbol{nil}
	for len(words) > 0 {
		word, last := words[0], len(l)-1
		words = words[1:]
		switch word {
		case "|":
			l = append(l, nil)
		case "{", "[":
			s := &symbol{repeat: word == "{"}
			s.group, words = readAlternatives(words)
			l[last] = append(l[last], s)
		case "}", "]":
			return l, words
		case "name", "number", "type":
			l[last] = append(l[last], &symbol{word: "any " + word})
		default:
			s := &symbol{rule: word}
			if word[0] == '"' {
				s = &symbol{word: strings.Trim(word, `"`)}
			}
			l[last] = append(l[last], s)
		}
	}
	return l, nil
}

// stack is what must still be read, the next symbol first. The depth is that of the block or the expression that the symbol belongs to.
type stack struct {
	next  *symbol
	below *stack
	depth int
}

func push(l []*symbol, below *stack, depth int) *stack {
	for _, s := range slices.Backward(l) {
		below = &stack{s, below, depth}
	}
	return below
}

// after are the stacks behind a word that a stack may begin with, and whether this word begins a block or an expression that is too deep.
func (g grammar) after(s *stack, word string, inDeep bool) (l []*stack, deep bool) {
	if s == nil {
		return nil, false
	}
	if s.next.word != "" {
		if s.next.word == word {
			return []*stack{s.below}, inDeep
		}
		return nil, false
	}
	alternatives, below, depth := s.next.group, s.below, s.depth
	if s.next.rule == "block" || s.next.rule == "expr" {
		depth++
		inDeep = depth > 10
	}
	if s.next.rule != "" {
		alternatives = g[s.next.rule]
	} else {
		l, deep = g.after(s.below, word, false)
		if s.next.repeat {
			below = s
		}
	}
	for _, a := range alternatives {
		if a[0].word != "" && a[0].word != word {
			continue
		}
		more, d := g.after(push(a, below, depth), word, inDeep)
		l, deep = append(l, more...), deep || d
	}
	return l, deep
}

// find returns the part of a stack from a symbol on.
func find(s *stack, wanted *symbol) *stack {
	for s != nil && s.next != wanted {
		s = s.below
	}
	return s
}

// position is a place in the words of a source, and what can stand there.
type position struct {
	words []string
	at    int
	alive []*stack
}

// sortOf is the word by which the model knows a token.
func sortOf(t api.Token) string {
	switch {
	case t.Kind == api.TokNumber:
		return "any number"
	case t.Kind == api.TokType:
		return "any type"
	case t.Kind == api.TokName && !slices.Contains(keyWords, t.Text):
		return "any name"
	}
	return t.Text
}

// textOf is the text of a token, as it stands in a source.
func textOf(t api.Token) string {
	switch t.Kind {
	case api.TokType:
		return "u" + strconv.FormatUint(t.N, 10)
	case api.TokNumber:
		return strconv.FormatUint(t.N, 10)
	}
	return t.Text
}

// model is the diagnostics of a source as the chapter says them: all that the grammar allows is followed at once, token by token.
func model(source string) []api.Diag {
	tokens, e, at := lexer.Lex(source)
	if e != api.OK {
		return []api.Diag{{Err: e, At: at}}
	}
	var offsets []int
	p := &position{alive: []*stack{{next: &symbol{rule: "program"}}}}
	for _, t := range tokens {
		p.words, offsets = append(p.words, sortOf(t)), append(offsets, t.At)
	}
	p.words, offsets = append(p.words, ""), append(offsets, len(source))
	var diags []api.Diag
	for len(diags) < 20 && p.alive != nil {
		if p.alive[0] == nil && p.words[p.at] == "" {
			break
		}
		if e := p.step(); e != api.OK {
			diags = append(diags, api.Diag{Err: e, At: offsets[p.at]})
			p.skip()
		}
	}
	return diags
}

// step reads a word, or returns why it cannot be read.
func (p *position) step() api.Errno {
	var alive []*stack
	for _, s := range p.alive {
		l, deep := rules.after(s, p.words[p.at], false)
		if deep {
			return api.ErrDeep
		}
		alive = append(alive, l...)
	}
	if len(alive) == 0 {
		return api.ErrSyntax
	}
	p.alive = alive
	p.at++
	return api.OK
}

// skip leaves out what is left out behind an error. If nothing more is read, nothing is alive.
func (p *position) skip() {
	items, statements := rules["program"][0][0], rules["block"][0][1]
	s := p.alive[0]
	p.alive = nil
	if s == nil {
		return
	}
	if body := find(s, statements); body != nil {
		if p.skipStatement() {
			p.alive = []*stack{body}
		} else if further := find(s, items); further != nil && p.words[p.at] != "" {
			p.alive = []*stack{further}
		}
		return
	}
	for !isHead(p.words[p.at]) {
		if p.words[p.at] == "" {
			return
		}
		p.at++
	}
	p.alive = []*stack{{next: &symbol{rule: "program"}}}
}

func isHead(word string) bool {
	return word == "struct" || word == "func" || word == "parse"
}

// skipStatement leaves out the rest of a statement, and reports whether its block goes on.
func (p *position) skipStatement() bool {
	since := p.words[p.at:]
	for i, word := range since {
		open := 0
		for _, w := range since[:i] {
			switch w {
			case "{":
				open++
			case "}":
				open--
			}
		}
		switch {
		case word == ";" && open == 0, word == "}" && open == 1 && since[i+1] != "else":
			p.at += i + 1
			return true
		case word == "}" && open == 0:
			p.at += i
			return true
		case isHead(word) || word == "":
			p.at += i
			return false
		}
	}
	return false
}
