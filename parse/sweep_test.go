package parse

import (
	"strconv"
	"strings"
	"testing"

	"clerestory/api"
	"clerestory/lex"
)

// Texts of each kind, with all that may be there and with none of it.
var samples = []string{
	"create table t ( p text , k int , primary key ( p , k ) )",
	"create table t ( a int , k text , b text , p int , primary key ( p , k ) ) ;",
	"create materialized view v as select * from t where a is not null primary key ( a , p , k )",
	"create materialized view v as select b , c from t where a is not null primary key ( a , p , k ) ;",
	"create index i on t ( a )",
	"create index i on t ( a ) ;",
	"drop v",
	"drop v ;",
	"insert into t ( p ) values ( 1 )",
	"insert into t ( p , k , a ) values ( 'x' , -5 , 'it''s' ) ;",
	"insert into t ( p , k ) values ( 1 , 2 ) using timestamp 5",
	"insert into t ( p , k ) values ( 1 , 2 ) using ttl 9 ;",
	"insert into t ( p , k ) values ( 1 , 2 ) using timestamp 5 and ttl 9",
	"update t set a = 1 where p = 'x' and k = 2",
	"update t using timestamp 7 set a = 'y' , b = 2 where k = 'x' and p = 1 ;",
	"update t using ttl 7 set a = 'y' , b = 2 where k = 'x' and p = 1",
	"update t using timestamp 5 and ttl 9 set a = 1 where p = 1 and k = 2",
	"delete from t where p = 1",
	"delete a , b from t where p = 1 and k = 2 ;",
	"delete a from t using timestamp 3 where p = 1 and k = 2",
	"select * from t where p = 1",
	"select a , b from t where p = 1 and k = 'y' ;",
	"select a from t where p = 1 and p = 1 limit 3",
	"select a from t where p = 1 limit 3 ;",
	"begin batch delete from t where p = 1 ; apply batch",
	"begin batch insert into t ( p ) values ( 1 ) using ttl 2 ; update u set a = 1 , b = 2 where p = 1 and k = 2 ; delete a from t where p = 1 ; apply batch ;",
}

// Tokens that may come in another one's place.
var others = strings.Fields("( ) , ; = * 0 1 -5 1099511627776 '' 'p' 'from' a b p k t hop primaryx create table primary key materialized view as select from where is not null index on drop insert into values using update set and delete timestamp limit begin batch apply text int ttl")

// P14.1, P14.2, P14.3: every sample with one token more, less, or another; with two in each other's place; and cut behind each.
func TestEachTokenOfEachSample(t *testing.T) {
	whole := wholeGrammar()
	for _, sample := range samples {
		tokens := strings.Fields(sample)
		held(t, sample, whole)
		for i := range len(tokens) + 1 {
			front := strings.Join(tokens[:i], " ")
			held(t, front, whole)
			for _, other := range others {
				held(t, front+" "+other+" "+strings.Join(tokens[i:], " "), whole)
				if i < len(tokens) {
					held(t, front+" "+other+" "+strings.Join(tokens[i+1:], " "), whole)
				}
			}
			if i < len(tokens) {
				held(t, front+" "+strings.Join(tokens[i+1:], " "), whole)
			}
			if i+1 < len(tokens) {
				held(t, front+" "+tokens[i+1]+" "+tokens[i]+" "+strings.Join(tokens[i+2:], " "), whole)
			}
		}
	}
}

// maker makes random texts, by numbers of its own.
type maker struct{ state uint64 }

func (m *maker) pick(n int) int {
	m.state = m.state*6364136223846793005 + 1442695040888963407
	return int(m.state>>33) % n
}

func (m *maker) of(list ...string) string { return list[m.pick(len(list))] }

// often is true, but for one time of n.
func (m *maker) often(n int) bool { return m.pick(n) > 0 }

// count is mostly small, now and then near to most.
func (m *maker) count(most int) int {
	if m.often(6) {
		return 1 + m.pick(3)
	}
	return most - 1 + m.pick(3)
}

// column is one of a list's so many, unlike the others, but for one now and then.
func (m *maker) column(i int) string {
	if m.often(40) {
		return "c" + strconv.Itoa(i)
	}
	return m.of("c0", "p", "k", "\u00e9", "table", "5", "'c'", strings.Repeat("n", 100))
}

func (m *maker) columns(n int) string {
	var list []string
	for i := range n {
		list = append(list, m.column(i))
	}
	return strings.Join(list, ",")
}

func (m *maker) value() string {
	return m.of("1", "-5", "'x'", "''", "'it''s'", "'\u20ac'", "1099511627776", "-1099511627776", "007", "-0", "'"+strings.Repeat("''", m.pick(101))+"'", "'"+strings.Repeat("y", m.pick(101))+"'")
}

func (m *maker) values(n int) string {
	if !m.often(12) {
		n += m.pick(3) - 1
	}
	var list []string
	for range n {
		list = append(list, m.value())
	}
	return strings.Join(list, ",")
}

func (m *maker) number() string {
	return m.of("1", "5", "1099511627776", "1099511627775", "0005", m.of("5", "0", "-1", "-0", "'5'", "1099511627777"))
}

func (m *maker) using() string {
	switch m.pick(4) {
	case 0:
		return " using timestamp " + m.number()
	case 1:
		return " using ttl " + m.number()
	case 2:
		return " using timestamp " + m.number() + " and ttl " + m.number()
	}
	return ""
}

func (m *maker) where(n int) string {
	s := " where " + m.column(0) + "=" + m.value()
	if n > 1 {
		s += " and " + m.column(1) + "=" + m.value()
	}
	return s
}

func (m *maker) change() string {
	n := m.count(8)
	switch m.pick(3) {
	case 0:
		n = m.count(10)
		return "insert into t(" + m.columns(n) + ")values(" + m.values(n) + ")" + m.using()
	case 1:
		var sets []string
		for i := range n {
			sets = append(sets, m.column(i)+"="+m.value())
		}
		return "update t" + m.using() + " set " + strings.Join(sets, ",") + m.where(2)
	}
	stamp := m.of("", "", " using timestamp "+m.number())
	return "delete " + m.of("", m.columns(n)) + " from t" + stamp + m.where(1+m.pick(2))
}

func (m *maker) table() string {
	n := 2 + m.count(8)
	names := strings.Split(m.columns(n), ",")
	s := "create table t("
	for _, name := range names {
		s += name + m.of(" text,", " int,")
	}
	return s + "primary key(" + m.of(names...) + "," + m.of(names...) + "))"
}

func (m *maker) text() string {
	asked := m.of("*", m.columns(m.count(8)))
	switch m.pick(8) {
	case 0:
		return m.table()
	case 1:
		on := m.column(0)
		return "create materialized view v as select " + asked + " from t where " + on + " is not null primary key(" + m.of(on, on, on, m.column(0)) + "," + m.column(1) + "," + m.column(2) + ")"
	case 2:
		return "create index " + m.column(0) + " on t(" + m.column(0) + ")"
	case 3:
		return "drop " + m.column(0)
	case 4:
		return "select " + asked + " from t" + m.where(1+m.pick(2)) + m.of("", " limit "+m.number())
	case 5:
		s := "begin batch "
		for range m.count(8) {
			s += m.change() + ";"
		}
		return s + "apply batch"
	}
	return m.change()
}

// spoilt is a text with a token out, twice, or another one in its place, now and then.
func (m *maker) spoilt(s string) string {
	tokens, _, e := lex.All(s)
	if e != api.OK || m.often(3) || len(tokens) == 0 {
		return s
	}
	points := []rune(s)
	i := m.pick(len(tokens))
	from, to := tokens[i].At, len(points)
	if i+1 < len(tokens) {
		to = tokens[i+1].At
	}
	front, token, back := string(points[:from]), string(points[from:to]), string(points[to:])
	switch m.pick(3) {
	case 0:
		return front + " " + back
	case 1:
		return front + token + " " + token + " " + back
	}
	return front + " " + others[m.pick(len(others))] + " " + back
}

// P14.1 to P14.5
func TestRandomTexts(t *testing.T) {
	whole := wholeGrammar()
	m := &maker{state: 14}
	fine := map[api.Errno]int{}
	for range 30000 {
		s := m.spoilt(m.text()) + m.of("", "", " ;", "\n-- so", " ; ;")
		held(t, s, whole)
		_, _, e := Parse(s)
		fine[e]++
	}
	if fine[api.OK] < 5000 || fine[api.ErrText] < 5000 || fine[api.ErrBig] < 150 {
		t.Error("too few of one sort:", fine)
	}
}

// P13.2, P14.1: blanks, comments and great letters turn nothing but places.
func TestBlanks(t *testing.T) {
	for _, sample := range samples {
		want, _, _ := Parse(sample)
		tight := strings.NewReplacer(" ( ", "(", " ) ", ")", " )", ")", " , ", ",", " ;", ";", " = ", "=").Replace(sample)
		great := strings.NewReplacer("'X'", "'x'", "'Y'", "'y'", "'IT''S'", "'it''s'").Replace(strings.ToUpper(sample))
		for _, s := range []string{tight, great, "\r\n\t " + strings.ReplaceAll(sample, " ", " -- it's ;\n") + " --", strings.ReplaceAll(great, " ", "\t\r\n")} {
			if got, at, e := Parse(s); !alike(got, want) || at != 0 || e != api.OK {
				t.Errorf("Parse(%q): %+v, %d, %d, want %+v", s, got, at, e, want)
			}
		}
	}
}
