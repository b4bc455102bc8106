package parse

import "brazier/api"

// What a token may begin is asked ahead of reading it: see in.

func (r *reader) beginsStmt() bool {
	return r.is(";", "return", "if", "while", "for", "break", "continue", "throw", "try") || r.beginsAssign()
}

func (r *reader) beginsAssign() bool { return r.beginsYield() || r.beginsUnary() }

func (r *reader) beginsYield() bool { return r.star && r.is("yield") }

func (r *reader) beginsUnary() bool { return r.beginsSigned() || r.beginsCallee() }

func (r *reader) beginsSigned() bool {
	return r.is("delete", "void", "typeof", "+", "-", "~", "!", "++", "--")
}

func (r *reader) beginsCallee() bool { return r.is("new") || r.beginsPrimary() }

func (r *reader) beginsPrimary() bool {
	switch r.now().Kind {
	case api.TokenName, api.TokenNumber, api.TokenString:
		return true
	}
	return r.is("true", "false", "null", "undefined", "this", "(", "[", "{", "function")
}
