package scope

import (
	"cmp"
	"slices"

	"whisper/api"
	"whisper/program"
)

// kind is what is wrong with a name. The kinds stand in the chapter's order, in which errors at one position are reported.
type kind int

// What may be wrong with a policy, and then with a program.
const (
	hatchTwice kind = iota
	hatchPoint
	hatchFun
	hatchOp
	hatchVar

	inputTwice
	globalTwice
	channelTwice
	exceptionTwice
	funTwice
	paramTwice
	paramIsInput
	letIsInput
	noPoint
	noVar
	noGlobal
	noChannel
	noException
	noHatch
	noFun
	callParts
	holeTwice
)

func (k kind) code() api.Errno {
	switch k {
	case hatchTwice, inputTwice, globalTwice, channelTwice, exceptionTwice, funTwice, paramTwice, paramIsInput, letIsInput, holeTwice:
		return api.ErrTwice
	case hatchOp, callParts:
		return api.ErrKind
	}
	return api.ErrName
}

// report is errors, as they are found.
type report []finding

type finding struct {
	kind kind
	diag api.Diag
}

func (r *report) add(k kind, n program.Name) {
	*r = append(*r, finding{k, api.Diag{Code: k.code(), At: n.At, Name: n.Text}})
}

func (r *report) addIf(isWrong bool, k kind, n program.Name) {
	if isWrong {
		r.add(k, n)
	}
}

// diags sorts by positions; those of one kind at one position stay as they were found.
func (r report) diags() []api.Diag {
	slices.SortStableFunc(r, func(a, b finding) int {
		return cmp.Or(
			cmp.Compare(a.diag.At.Line, b.diag.At.Line),
			cmp.Compare(a.diag.At.Col, b.diag.At.Col),
			cmp.Compare(a.kind, b.kind),
		)
	})
	var l []api.Diag
	for _, f := range r {
		l = append(l, f.diag)
	}
	return l
}
