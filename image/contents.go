package image

import (
	"bytes"

	"tappet/api"
	"tappet/heap"
)

// mark is what every image begins with.
const mark = "TPPT"

// Where the numbers are that an image has ahead of its objects, and how many there are.
const (
	rootAt = iota
	hashesAt
	countAt
	imageHead
)

// The same of an object, ahead of its fields.
const (
	classAt = iota
	hashAt
	sizeAt
	objectHead
)

// contents are what an image tells of a heap.
type contents struct {
	root    api.Word
	hashes  int
	objects []heap.Object
}

// encoded are the bytes of contents.
func encoded(c contents) []byte {
	b := make([]byte, 0, encodedLength(c.objects))
	b = append(b, mark...)
	b = appendNumbers(b, uint64(c.root), uint64(c.hashes), uint64(len(c.objects)))
	for _, o := range c.objects {
		b = appendNumbers(b, uint64(o.Class), uint64(o.Hash), uint64(len(o.Fields)))
		for _, w := range o.Fields {
			b = appendNumbers(b, uint64(w))
		}
	}
	return b
}

// encodedLength is how many bytes an image of these objects has.
func encodedLength(l []heap.Object) int {
	numbers := imageHead
	for _, o := range l {
		numbers += objectHead + len(o.Fields)
	}
	return len(mark) + numbers*numberBytes
}

// decoded are the contents of bytes that are laid out as an image; whether a heap can hold them is another question.
func decoded(b []byte) (contents, error) {
	rest, marked := bytes.CutPrefix(b, []byte(mark))
	if !marked {
		return contents{}, fault{len(b), errForm}
	}
	r := &reader{rest}
	c, err := readContents(r.number)
	if err != nil {
		return contents{}, fault{len(r.rest), err}
	}
	if len(r.rest) > 0 {
		return contents{}, fault{len(r.rest), errForm}
	}
	return c, nil
}

// readContents reads all that an image announces.
func readContents(next source) (contents, error) {
	head, err := readNumbers(next, imageHead)
	if err != nil {
		return contents{}, err
	}
	objects, err := readObjects(next, head[countAt])
	if err != nil {
		return contents{}, err
	}
	return contents{api.Word(head[rootAt]), int(head[hashesAt]), objects}, nil
}

// readObjects reads so many of them. The list grows with what is read, for the number may be any.
func readObjects(next source, count uint64) ([]heap.Object, error) {
	var list []heap.Object
	for range count {
		o, err := readObject(next)
		if err != nil {
			return nil, err
		}
		list = append(list, o)
	}
	return list, nil
}

// readObject reads one. Its number of fields has no sign, and so one below 0 is one above all bounds.
func readObject(next source) (heap.Object, error) {
	head, err := readNumbers(next, objectHead)
	if err != nil {
		return heap.Object{}, err
	}
	if head[sizeAt] > api.MaxFields {
		return heap.Object{}, errForm
	}
	numbers, err := readNumbers(next, int(head[sizeAt]))
	if err != nil {
		return heap.Object{}, err
	}
	fields := make([]api.Word, len(numbers))
	for k, n := range numbers {
		fields[k] = api.Word(n)
	}
	return heap.Object{Class: api.Word(head[classAt]), Hash: int(head[hashAt]), Fields: fields}, nil
}
