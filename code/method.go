package code

import (
	"slices"

	"tappet/api"
	"tappet/heap"
)

// Where the numbers of a method are among its object's fields, and how many there are ahead of the literals.
const (
	argsAt = iota
	tempsAt
	stackAt
	primAt
	litsAt
	numbers
)

const maxPrim = 255

// checkMethod is an error if a method may not be.
func checkMethod(m api.Method) error {
	err := within(
		bound{"Args", m.Args, 0, api.MaxArgs},
		bound{"Temps", m.Temps, m.Args, api.MaxTemps},
		bound{"Stack", m.Stack, 0, api.MaxStack},
		bound{"Prim", m.Prim, 0, maxPrim},
		bound{"number of literals", len(m.Lits), 0, api.MaxLits},
		bound{"number of instructions", len(m.Code), 1, api.MaxCode},
	)
	if err != nil {
		return err
	}
	for _, i := range m.Code {
		if err := checkInstr(i); err != nil {
			return err
		}
	}
	return nil
}

// encoded are the fields of a method that was checked.
func encoded(m api.Method) []api.Word {
	fields := make([]api.Word, numbers, numbers+len(m.Lits)+len(m.Code))
	fields[argsAt] = integer(m.Args)
	fields[tempsAt] = integer(m.Temps)
	fields[stackAt] = integer(m.Stack)
	fields[primAt] = integer(m.Prim)
	fields[litsAt] = integer(len(m.Lits))
	fields = append(fields, m.Lits...)
	for _, i := range m.Code {
		fields = append(fields, packed(i))
	}
	return fields
}

// fieldsOf are an object's fields. It is there, and so none of the heap's answers is an error.
func fieldsOf(h *heap.Heap, w api.Word) []api.Word {
	size, _ := h.Size(w)
	fields := make([]api.Word, size)
	for k := range fields {
		fields[k], _ = h.Fetch(w, k)
	}
	return fields
}

// decoded is the method whose fields these are.
func decoded(fields []api.Word) (api.Method, error) {
	head, err := decodedNumbers(fields)
	if err != nil {
		return api.Method{}, err
	}
	// All that is no literal is an instruction, so that no field is left over.
	codeAt := numbers + head[litsAt]
	list, err := decodedCode(fields[codeAt:])
	if err != nil {
		return api.Method{}, err
	}
	m := api.Method{
		Args:  head[argsAt],
		Temps: head[tempsAt],
		Stack: head[stackAt],
		Prim:  head[primAt],
		Lits:  slices.Clone(fields[numbers:codeAt]),
		Code:  list,
	}
	if err := checkMethod(m); err != nil {
		return api.Method{}, err
	}
	return m, nil
}

// decodedNumbers are the numbers ahead of the literals; there are as many fields behind them as they name literals.
func decodedNumbers(fields []api.Word) ([numbers]int, error) {
	var head [numbers]int
	if len(fields) < numbers {
		return head, fault{"number of fields", len(fields)}
	}
	for k := range head {
		n, err := number("number", fields[k])
		if err != nil {
			return head, err
		}
		head[k] = n
	}
	return head, within(bound{"number of literals", head[litsAt], 0, len(fields) - numbers})
}

// decodedCode are the instructions of the fields behind the literals.
func decodedCode(fields []api.Word) ([]api.Instr, error) {
	var list []api.Instr
	for _, w := range fields {
		i, err := unpacked(w)
		if err != nil {
			return nil, err
		}
		list = append(list, i)
	}
	return list, nil
}
