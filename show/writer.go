package show

import (
	"strings"

	"runrig/api"
)

// writer collects a text. The builder copies all that is added: the text shares no memory with the names in it, and what
// is nested deeply is not copied anew at each level.
type writer struct {
	strings.Builder

	blocks int // which enclose the next line
}

func (w *writer) add(texts ...string) {
	for _, text := range texts {
		w.WriteString(text)
	}
}

// typeOf adds a type. Only a type that no text has can have dimensions below 0 or above MaxDims: it may claim more
// brackets than there is memory for, so those are left out.
func (w *writer) typeOf(o api.Of) {
	dims := min(max(o.Dims, 0), api.MaxDims)
	w.add(strings.Repeat("[", dims), o.Name, strings.Repeat("]", dims))
}
