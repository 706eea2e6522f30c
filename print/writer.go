package print

import (
	"strconv"
	"strings"

	"clerestory/api"
	"clerestory/runes"
)

// writer writes a statement's tokens behind each other.
type writer struct {
	out  strings.Builder
	last string // what was put last
}

// put writes tokens; the grammar's words that stand side by side are one.
func (w *writer) put(tokens ...string) {
	for _, token := range tokens {
		if w.apart(token) {
			w.out.WriteByte(' ')
		}
		w.out.WriteString(token)
		w.last = token
	}
}

// apart tells whether a blank comes ahead of a token.
func (w *writer) apart(token string) bool {
	switch token {
	case ")", ",", ";":
		return false
	}
	return w.last != "" && w.last != "("
}

// statement writes a statement in its kind's type.
func (w *writer) statement(tree any) {
	switch x := tree.(type) {
	case createTable:
		w.createTable(x)
	case createView:
		w.createView(x)
	case createIndex:
		w.put("CREATE INDEX", x.Name, "ON", x.Of, "(", x.On, ")")
	case drop:
		w.put("DROP", string(x))
	case insert:
		w.insert(x)
	case update:
		w.put("UPDATE", x.Of)
		w.using(x.Stamp, x.TTL)
		w.put("SET")
		w.pairs(",", x.Sets)
		w.where(x.Where)
	case deletion:
		w.deletion(x)
	case selection:
		w.selection(x)
	case batch:
		w.batch(x)
	}
}

func (w *writer) createTable(x createTable) {
	w.put("CREATE TABLE", x.Name, "(")
	w.column(x.Part)
	w.column(x.Clus)
	for _, c := range x.Cols {
		w.column(c)
	}
	w.put("PRIMARY KEY", "(", x.Part.Name, ",", x.Clus.Name, ")", ")")
}

// column writes one of a table's, with the comma behind it.
func (w *writer) column(c api.Column) {
	if c.Type == api.Int {
		w.put(c.Name, "INT", ",")
		return
	}
	w.put(c.Name, "TEXT", ",")
}

func (w *writer) createView(x createView) {
	w.put("CREATE MATERIALIZED VIEW", x.Name, "AS SELECT")
	w.allOrColumns(x.Cols)
	w.put("FROM", x.Of, "WHERE", x.On, "IS NOT NULL PRIMARY KEY", "(", x.On)
	for _, key := range x.Where {
		w.put(",", key.Name)
	}
	w.put(")")
}

func (w *writer) insert(x insert) {
	w.put("INSERT INTO", x.Of, "(")
	list(w, ",", x.Sets, func(p api.Pair) { w.put(p.Name) })
	w.put(")", "VALUES", "(")
	list(w, ",", x.Sets, func(p api.Pair) { w.value(valueOf(p.Term)) })
	w.put(")")
	w.using(x.Stamp, x.TTL)
}

func (w *writer) deletion(x deletion) {
	w.put("DELETE")
	w.columns(x.Cols)
	w.put("FROM", x.Of)
	w.using(x.Stamp, x.TTL)
	w.where(x.Where)
}

func (w *writer) selection(x selection) {
	w.put("SELECT")
	w.allOrColumns(x.Cols)
	w.put("FROM", x.Of)
	w.where(x.Where)
	if x.Limit != 0 {
		w.put("LIMIT")
		w.value(number(x.Limit))
	}
}

func (w *writer) batch(x batch) {
	w.put("BEGIN BATCH")
	for _, part := range x {
		w.statement(part)
		w.put(";")
	}
	w.put("APPLY BATCH")
}

// using writes a stamp, a TTL, or both, if they are there.
func (w *writer) using(stamp, ttl int) {
	word := "USING"
	if stamp != 0 {
		w.put(word, "TIMESTAMP")
		w.value(number(stamp))
		word = "AND"
	}
	if ttl != 0 {
		w.put(word, "TTL")
		w.value(number(ttl))
	}
}

func (w *writer) where(key []api.Pair) {
	w.put("WHERE")
	w.pairs("AND", key)
}

// pairs writes columns and their values, with a token between two.
func (w *writer) pairs(between string, pairs []api.Pair) {
	list(w, between, pairs, func(p api.Pair) {
		w.put(p.Name, "=")
		w.value(valueOf(p.Term))
	})
}

// allOrColumns writes columns, or the sign for all.
func (w *writer) allOrColumns(names []string) {
	if len(names) == 0 {
		w.put("*")
	}
	w.columns(names)
}

func (w *writer) columns(names []string) {
	list(w, ",", names, func(name string) { w.put(name) })
}

// list writes one behind the other, with a token between two.
func list[T any](w *writer, between string, all []T, one func(T)) {
	for i, x := range all {
		if i > 0 {
			w.put(between)
		}
		one(x)
	}
}

// value writes a value in its kind's type.
func (w *writer) value(v any) {
	switch x := v.(type) {
	case text:
		w.put(runes.Quote(string(x)))
	case number:
		w.put(strconv.Itoa(int(x)))
	}
}
