package tests

import (
	"fmt"
	"math/rand"
	"regexp"
	"slices"
	"strings"
	"testing"

	"loop.example/g01917/impl"
)

const tableLimit = 6
const tableRowLimit = 16

// The conversions compile only if a Table and a Database have no other fields.
var _ = impl.Table(struct {
	Name     string
	Relation impl.Relation
}{})
var _ = impl.Database(struct {
	Tables []impl.Table
}{})

func table(name string, r impl.Relation) impl.Table {
	return impl.Table{Name: name, Relation: r}
}

func database(tables ...impl.Table) impl.Database {
	return impl.Database{Tables: tables}
}

// describeDatabase keeps messages about large databases readable.
func describeDatabase(db impl.Database) string {
	if len(db.Tables) > 8 {
		return fmt.Sprintf("{%d tables}", len(db.Tables))
	}
	var tables []string
	for _, x := range db.Tables {
		tables = append(tables, fmt.Sprintf("%.20q=%s", x.Name, describe(x.Relation)))
	}
	return "{" + strings.Join(tables, "; ") + "}"
}

func cloneOfDatabase(db impl.Database) impl.Database {
	clone := impl.Database{}
	for _, x := range db.Tables {
		clone.Tables = append(clone.Tables, table(strings.Clone(x.Name), cloneOf(x.Relation)))
	}
	return clone
}

// sameDatabases is the test's own comparison of any databases.
func sameDatabases(a, b impl.Database) bool {
	if len(a.Tables) != len(b.Tables) {
		return false
	}
	for i, x := range a.Tables {
		if x.Name != b.Tables[i].Name || !sameRelations(x.Relation, b.Tables[i].Relation) {
			return false
		}
	}
	return true
}

var nameFormat = regexp.MustCompile(`^[a-z]{1,4}$`)

// plainIsValidTable is the test's own check of one table.
func plainIsValidTable(x impl.Table) bool {
	return nameFormat.MatchString(x.Name) && plainIsValid(x.Relation) && x.Relation.Arity != 0 && len(x.Relation.Rows) <= tableRowLimit
}

// plainIsValidDatabase is the test's own check of a database.
func plainIsValidDatabase(db impl.Database) bool {
	for i, x := range db.Tables {
		if !plainIsValidTable(x) || i > 0 && strings.Compare(db.Tables[i-1].Name, x.Name) != -1 {
			return false
		}
	}
	return len(db.Tables) <= tableLimit
}

// plainLookup is the test's own search for a relation.
func plainLookup(db impl.Database, name string) (impl.Relation, bool) {
	for _, x := range db.Tables {
		if x.Name == name && plainIsValidDatabase(db) {
			return x.Relation, true
		}
	}
	return impl.Relation{}, false
}

// plainSet is the test's own storing of a relation.
func plainSet(db impl.Database, name string, r impl.Relation) (impl.Database, bool) {
	changed := database(table(name, r))
	for _, x := range db.Tables {
		if x.Name != name {
			changed.Tables = append(changed.Tables, x)
		}
	}
	slices.SortFunc(changed.Tables, func(x, y impl.Table) int { return strings.Compare(x.Name, y.Name) })
	if !plainIsValidDatabase(db) || !plainIsValidDatabase(changed) {
		return db, false
	}
	return changed, true
}

// tableRelations contains relations for each arity of a table, without rows,
// with a few rows, and with as many rows as a table may have.
func tableRelations() []impl.Relation {
	var all []impl.Relation
	for _, r := range smallRelations() {
		if r.Arity > 0 {
			all = append(all, r)
		}
	}
	return append(all, fullRelations()...)
}

// fullRelations contains, for each arity of a table, relations of almost as
// many and as many rows as allowed.
func fullRelations() []impl.Relation {
	all := []impl.Relation{relation(1, rowsOfLength(allValues(), 1)[70:85]...), relation(1, rowsOfLength(allValues(), 1)[84:]...)}
	for arity := 2; arity <= arityLimit; arity++ {
		all = append(all, relation(arity, manyRows(arity, tableRowLimit-1)...), relation(arity, manyRows(arity, tableRowLimit)...))
	}
	return all
}

// invalidTableRelations contains relations that no table may have, also some
// that are valid apart from a database.
func invalidTableRelations() []impl.Relation {
	all := []impl.Relation{
		{}, relation(0), relation(0, nil), relation(1, rowsOfLength(allValues(), 1)[:tableRowLimit+1]...), relation(1, rowsOfLength(allValues(), 1)...),
	}
	for arity := 2; arity <= arityLimit; arity++ {
		for _, count := range []int{tableRowLimit + 1, 2 * tableRowLimit, rowLimit, rowLimit + 1} {
			all = append(all, relation(arity, manyRows(arity, count)...))
		}
	}
	return slices.Concat(all, relationsOfInvalidArity(), smallInvalidRelations())
}

// sampleNames are in ascending order.
var sampleNames = []string{"a", "aa", "aaa", "aaaa", "aaab", "ab", "abcd", "az", "b", "ba", "m", "rst", "s", "z", "zz", "zzzy", "zzzz"}

var invalidNames = []string{
	"", "aaaaa", "abcde", "zzzzz", "A", "Z", "aA", "Abc", "abcD", "`", "{", "a`", "{a", "0", "a1", "1a", "_", "a_b", "-", "a-", " ", " a", "a ", "a b",
	"\n", "a\n", "\na", "a\nb", "\r", "a\r", "\t", "\x00", "a\x00", "\x00a", "=", "a=", "=a", ":", "1:", "\x7f", "\x80", "\xff", "a\xff", "\xe1", "\xc3\xa1",
	"é", "aé", "ß", "ａ", "а", "ƃ", "\u0161", "\U00010061", "a\u0301", strings.Repeat("a", 260), strings.Repeat("a", 1<<16+1), strings.Repeat("é", 2),
}

// tablesNamed returns tables with these names and various relations.
func tablesNamed(names ...string) []impl.Table {
	relations := tableRelations()
	var tables []impl.Table
	for i, name := range names {
		tables = append(tables, table(name, relations[(17*i+5)%len(relations)]))
	}
	return tables
}

// validDatabases contains databases with each number of tables, with names of
// each length, and with as many rows as allowed.
func validDatabases() []impl.Database {
	all := []impl.Database{{}, {Tables: []impl.Table{}}}
	for _, r := range tableRelations() {
		all = append(all, database(table("r", r)), database(table("r", r), table("s", r), table("t", r)))
	}
	for count := 1; count <= tableLimit; count++ {
		for start := 0; start+count <= len(sampleNames); start += 1 + count/3 {
			all = append(all, database(tablesNamed(sampleNames[start:start+count]...)...))
		}
	}
	all = append(all, database(tablesNamed("a", "b", "c", "x", "y", "z")...), database(tablesNamed("aaaa", "aaab", "aaac", "zzzx", "zzzy", "zzzz")...))
	full := tablesNamed(sampleNames[:tableLimit]...)
	for i := range full {
		full[i].Relation = fullRelations()[i+4]
	}
	return append(all, database(full...))
}

// databasesOfInvalidNames have too many tables, a wrong name at each position,
// or names in another order.
func databasesOfInvalidNames() []impl.Database {
	all := []impl.Database{
		database(tablesNamed("a", "b", "c", "d", "e", "f", "g")...),
		database(tablesNamed(sampleNames...)...),
		{Tables: make([]impl.Table, 1)}, {Tables: make([]impl.Table, tableLimit+1)}, {Tables: make([]impl.Table, 1000)},
	}
	for _, name := range invalidNames {
		all = append(all, database(tablesNamed(name)...), database(tablesNamed(name, "b")...), database(tablesNamed("a", name)...))
	}
	for _, names := range [][]string{
		{"b", "a"}, {"a", "a"}, {"aa", "a"}, {"b", "aaaa"}, {"ab", "aab"}, {"z", "a"}, {"zzzz", "zzzz"},
		{"a", "c", "b"}, {"b", "a", "c"}, {"a", "b", "b"}, {"a", "a", "b"}, {"a", "b", "a"},
		{"a", "b", "c", "d", "f", "e"}, {"b", "a", "c", "d", "e", "f"}, {"a", "b", "c", "d", "e", "e"}, {"a", "b", "d", "c", "e", "f"},
	} {
		all = append(all, database(tablesNamed(names...)...))
	}
	return all
}

// databasesOfInvalidRelations have an invalid relation at each position.
func databasesOfInvalidRelations() []impl.Database {
	var all []impl.Database
	for i, r := range invalidTableRelations() {
		all = append(all, database(table("r", r)))
		last := database(tablesNamed("a", "b", "c", "d", "e", "f")...)
		last.Tables[i%tableLimit].Relation = r
		all = append(all, last, database(table("q", r), table("r", relation(1))), database(table("q", relation(1)), table("r", r)))
	}
	return all
}

func invalidDatabases() []impl.Database {
	return append(databasesOfInvalidNames(), databasesOfInvalidRelations()...)
}

func allDatabases() []impl.Database {
	return append(validDatabases(), invalidDatabases()...)
}

// namesFor contains names of the database, other names and invalid names.
func namesFor(db impl.Database) []string {
	names := slices.Concat(sampleNames, invalidNames, []string{"c", "d", "g", "q", "r", "ra", "t", "u"})
	for _, x := range db.Tables {
		names = append(names, x.Name, x.Name+"a", x.Name+"\n", strings.ToUpper(x.Name), x.Name[:max(len(x.Name)-1, 0)])
	}
	return names
}

func checkDatabase(t *testing.T, call string, got impl.Database, ok bool, want impl.Database, wantOk bool) {
	t.Helper()
	if !sameDatabases(got, want) || ok != wantOk {
		t.Fatalf("%s = %s, %v, want %s, %v", call, describeDatabase(got), ok, describeDatabase(want), wantOk)
	}
}

func TestDatabaseLimits(t *testing.T) {
	if impl.MaxTables != tableLimit || impl.MaxTableRows != tableRowLimit {
		t.Errorf("MaxTables = %d, MaxTableRows = %d", impl.MaxTables, impl.MaxTableRows)
	}
}

func TestIsValidName(t *testing.T) {
	for _, s := range append([]string{"r", "rs", "rst", "name", "aaaa", "zzzz"}, sampleNames...) {
		if !impl.IsValidName(s) {
			t.Errorf("IsValidName(%q) = false", s)
		}
	}
	for _, s := range invalidNames {
		if impl.IsValidName(s) {
			t.Errorf("IsValidName(%.20q) = true", s)
		}
	}
	for _, s := range slices.Concat(allStrings(allBytes(), 2), allStrings("`azm{A\n", 6), allStrings("abcdefghijklmnopqrstuvwxyz", 3)) {
		if got := impl.IsValidName(s); got != nameFormat.MatchString(s) {
			t.Errorf("IsValidName(%q) = %v", s, got)
		}
	}
}

// TestIsValidNameAtEveryPosition puts each byte at each position of a name.
func TestIsValidNameAtEveryPosition(t *testing.T) {
	for length := 1; length <= 6; length++ {
		for position := range length {
			for i := range 256 {
				s := strings.Repeat("k", position) + allBytes()[i:i+1] + strings.Repeat("k", length-position-1)
				if got, want := impl.IsValidName(s), length <= 4 && 'a' <= i && i <= 'z'; got != want {
					t.Errorf("IsValidName(%q) = %v", s, got)
				}
			}
		}
	}
}

func TestIsValidDatabase(t *testing.T) {
	for _, db := range validDatabases() {
		if !plainIsValidDatabase(db) || !impl.IsValidDatabase(db) {
			t.Errorf("%s is valid", describeDatabase(db))
		}
	}
	for _, db := range invalidDatabases() {
		if plainIsValidDatabase(db) || impl.IsValidDatabase(db) {
			t.Errorf("%s is invalid", describeDatabase(db))
		}
	}
}

// TestIsValidDatabaseForAllShortLists takes every list of up to three tables,
// in every order.
func TestIsValidDatabaseForAllShortLists(t *testing.T) {
	var tables []impl.Table
	for _, name := range []string{"", "a", "aa", "b", "aaaaa", "A"} {
		for _, r := range []impl.Relation{relation(1), relation(5, []int{0, 0, 0, 0, 99}), relation(0), relation(1, []int{1}, []int{0}), relation(2, manyRows(2, tableRowLimit+1)...)} {
			tables = append(tables, table(name, r))
		}
	}
	for _, first := range tables {
		for _, second := range tables {
			for _, third := range tables {
				for _, db := range []impl.Database{database(first), database(first, second), database(first, second, third)} {
					if got := impl.IsValidDatabase(db); got != plainIsValidDatabase(db) {
						t.Fatalf("IsValidDatabase(%s) = %v", describeDatabase(db), got)
					}
				}
			}
		}
	}
}

func TestLookupRelation(t *testing.T) {
	x, y := relation(1, []int{4}), relation(2, []int{0, 1}, []int{0, 2})
	db := database(table("r", x), table("rs", relation(3)), table("t", y))
	for _, c := range []struct {
		name string
		want impl.Relation
		ok   bool
	}{
		{"r", x, true},
		{"rs", relation(3), true},
		{"t", y, true},
		{"", relation(0), false},
		{"a", relation(0), false},
		{"s", relation(0), false},
		{"z", relation(0), false},
		{"rst", relation(0), false},
		{"R", relation(0), false},
		{"r ", relation(0), false},
	} {
		got, ok := impl.LookupRelation(db, c.name)
		checkRelation(t, fmt.Sprintf("LookupRelation of %q", c.name), got, ok, c.want, c.ok)
	}
	for _, db := range allDatabases() {
		for _, name := range namesFor(db) {
			want, wantOk := plainLookup(db, name)
			got, ok := impl.LookupRelation(db, name)
			checkRelation(t, fmt.Sprintf("LookupRelation(%s, %.20q)", describeDatabase(db), name), got, ok, want, wantOk)
		}
	}
}

func TestSetRelation(t *testing.T) {
	x, y := relation(1, []int{4}), relation(2, []int{0, 1}, []int{0, 2})
	db := database(table("r", x), table("t", y))
	unordered := database(table("t", y), table("r", x))
	for _, c := range []struct {
		db   impl.Database
		name string
		r    impl.Relation
		want impl.Database
		ok   bool
	}{
		{database(), "r", x, database(table("r", x)), true},
		{db, "a", y, database(table("a", y), table("r", x), table("t", y)), true},
		{db, "s", x, database(table("r", x), table("s", x), table("t", y)), true},
		{db, "ra", x, database(table("r", x), table("ra", x), table("t", y)), true},
		{db, "zzzz", relation(5), database(table("r", x), table("t", y), table("zzzz", relation(5))), true},
		{db, "r", y, database(table("r", y), table("t", y)), true},
		{db, "t", relation(3), database(table("r", x), table("t", relation(3))), true},
		{db, "t", y, db, true},
		{db, "", x, db, false},
		{db, "S", x, db, false},
		{db, "sssss", x, db, false},
		{db, "s", relation(0), db, false},
		{db, "s", relation(0, nil), db, false},
		{db, "r", relation(0), db, false},
		{db, "r", relation(1, []int{100}), db, false},
		{db, "r", relation(2, manyRows(2, tableRowLimit+1)...), db, false},
		{unordered, "s", x, unordered, false},
		{unordered, "t", x, unordered, false},
		{database(table("r", relation(0))), "r", x, database(table("r", relation(0))), false},
		{database(table("R", x)), "r", x, database(table("R", x)), false},
		{database(table("r", x), table("r", y)), "r", x, database(table("r", x), table("r", y)), false},
	} {
		got, ok := impl.SetRelation(c.db, c.name, c.r)
		checkDatabase(t, fmt.Sprintf("SetRelation(%s, %q, %s)", describeDatabase(c.db), c.name, describe(c.r)), got, ok, c.want, c.ok)
	}
}

// checkSetRelation compares SetRelation with the test's own result.
func checkSetRelation(t *testing.T, db impl.Database, name string, r impl.Relation) {
	t.Helper()
	call := fmt.Sprintf("SetRelation(%s, %.20q, %s)", describeDatabase(db), name, describe(r))
	want, wantOk := plainSet(db, name, r)
	got, ok := impl.SetRelation(db, name, r)
	checkDatabase(t, call, got, ok, want, wantOk)
	if !ok {
		return
	}
	found, isFound := impl.LookupRelation(got, name)
	checkRelation(t, "LookupRelation after "+call, found, isFound, r, true)
	if !impl.IsValidDatabase(got) {
		t.Fatalf("%s is invalid", call)
	}
	for _, x := range db.Tables {
		if x.Name != name {
			kept, isKept := impl.LookupRelation(got, x.Name)
			checkRelation(t, "LookupRelation of another table after "+call, kept, isKept, x.Relation, true)
		}
	}
}

func TestSetRelationForAllNames(t *testing.T) {
	some := []impl.Relation{relation(1), relation(3, []int{1, 2, 3}), relation(0), relation(2, []int{1, 0}, []int{0, 1})}
	for i, db := range allDatabases() {
		for k, name := range namesFor(db) {
			checkSetRelation(t, db, name, some[(i+k)%len(some)])
		}
	}
}

func TestSetRelationForAllRelations(t *testing.T) {
	some := []impl.Database{
		{}, database(tablesNamed("r")...), database(tablesNamed("a", "b", "r", "s", "t")...), database(tablesNamed("a", "b", "c", "d", "e", "f")...),
		database(tablesNamed("a", "b", "c", "d", "e", "r")...), database(tablesNamed("s", "r")...), database(table("r", relation(0))),
	}
	for _, db := range some {
		for _, name := range []string{"r", "s", "aaaa", "", "R"} {
			for _, r := range append(tableRelations(), invalidTableRelations()...) {
				checkSetRelation(t, db, name, r)
			}
		}
	}
}

// TestSetRelationWithNewName adds one table after another in a random order,
// until there are as many tables as allowed, and replaces each of them then.
func TestSetRelationWithNewName(t *testing.T) {
	random := rand.New(rand.NewSource(6))
	relations := tableRelations()
	for range 300 {
		names := slices.Clone(sampleNames)
		random.Shuffle(len(names), func(i, k int) { names[i], names[k] = names[k], names[i] })
		db := database()
		for i, name := range names {
			if _, ok := impl.LookupRelation(db, name); ok {
				t.Fatalf("%s has the new name %q", describeDatabase(db), name)
			}
			r := relations[random.Intn(len(relations))]
			checkSetRelation(t, db, name, r)
			longer, ok := impl.SetRelation(db, name, r)
			if ok != (i < tableLimit) || len(longer.Tables) != min(i+1, tableLimit) {
				t.Fatalf("SetRelation(%s, %q, %s) = %s, %v", describeDatabase(db), name, describe(r), describeDatabase(longer), ok)
			}
			db = longer
		}
		for _, name := range names[:tableLimit] {
			r := relations[random.Intn(len(relations))]
			checkSetRelation(t, db, name, r)
			db, _ = impl.SetRelation(db, name, r)
		}
	}
}

// TestInsertedRowIsContainedInTable inserts rows into each table, also into one
// with a new name, and deletes them again.
func TestInsertedRowIsContainedInTable(t *testing.T) {
	for _, db := range validDatabases() {
		for _, x := range db.Tables {
			for _, row := range rowsFor(x.Relation) {
				checkRowInTable(t, db, x.Name, row)
			}
		}
		for i, name := range []string{"aab", "q", "zzzx"} {
			if longer, ok := impl.SetRelation(db, name, relation(i+1)); ok {
				checkRowInTable(t, longer, name, validRow(i+1))
			}
		}
	}
}

func checkRowInTable(t *testing.T, db impl.Database, name string, row []int) {
	t.Helper()
	call := fmt.Sprintf("inserting %v into %q of %s", short(row), name, describeDatabase(db))
	before, _ := impl.LookupRelation(db, name)
	longer, ok := impl.InsertRow(before, row)
	if !ok {
		return
	}
	inserted, ok := impl.SetRelation(db, name, longer)
	if ok != (len(before.Rows) < tableRowLimit) {
		t.Fatalf("%s: %v", call, ok)
	}
	if !ok {
		checkDatabase(t, call, inserted, ok, db, false)
		return
	}
	after, _ := impl.LookupRelation(inserted, name)
	if !impl.ContainsRow(after, row) || impl.EqualDatabases(inserted, db) {
		t.Fatalf("%s: the row is not contained", call)
	}
	shorter, ok := impl.DeleteRow(after, row)
	restored, isRestored := impl.SetRelation(inserted, name, shorter)
	checkDatabase(t, call+" and deleting it", restored, ok && isRestored, db, true)
}

func TestEqualDatabases(t *testing.T) {
	all := allDatabases()
	for i, a := range all {
		for k := i % 7; k < len(all); k += 7 {
			if got := impl.EqualDatabases(a, all[k]); got != sameDatabases(a, all[k]) {
				t.Fatalf("EqualDatabases(%s, %s) = %v", describeDatabase(a), describeDatabase(all[k]), got)
			}
		}
		if !impl.EqualDatabases(a, cloneOfDatabase(a)) {
			t.Fatalf("%s is not equal to itself", describeDatabase(a))
		}
	}
	if !impl.EqualDatabases(impl.Database{}, impl.Database{Tables: []impl.Table{}}) || !impl.EqualDatabases(database(table("", relation(0, nil))), database(table("", relation(0, []int{})))) {
		t.Error("nil and empty slices are not equal")
	}
}

// TestEqualDatabasesWithOneDifference changes one part of each table.
func TestEqualDatabasesWithOneDifference(t *testing.T) {
	for _, a := range allDatabases() {
		for i := range a.Tables {
			var changed []impl.Database
			for range 6 {
				changed = append(changed, cloneOfDatabase(a))
			}
			changed[0].Tables[i].Name += "a"
			changed[1].Tables[i].Relation.Arity++
			changed[2].Tables[i].Relation.Rows = append(changed[2].Tables[i].Relation.Rows, nil)
			changed[3].Tables = slices.Delete(changed[3].Tables, i, i+1)
			changed[4].Tables = slices.Insert(changed[4].Tables, i, changed[4].Tables[i])
			last := len(a.Tables[i].Relation.Rows) - 1
			if last >= 0 {
				changed[5].Tables[i].Relation.Rows[last] = append(changed[5].Tables[i].Relation.Rows[last], 0)
			}
			for kind, b := range changed[:min(6, 6+last)] {
				if impl.EqualDatabases(a, b) || impl.EqualDatabases(b, a) {
					t.Fatalf("%s with the change %d at table %d", describeDatabase(a), kind, i)
				}
			}
		}
	}
}

// plainFormatDatabase is the test's own format of a valid database.
func plainFormatDatabase(db impl.Database) string {
	text := ""
	for _, x := range db.Tables {
		text += fmt.Sprintf("%s=%s\n", x.Name, plainFormatRelation(x.Relation))
	}
	return text
}

func TestFormatDatabase(t *testing.T) {
	for _, c := range []struct {
		db   impl.Database
		want string
	}{
		{database(), ""},
		{database(table("r", relation(1))), "r=1:\n"},
		{database(table("r", relation(1, []int{4})), table("t", relation(2))), "r=1:(4)\nt=2:\n"},
		{database(table("aaaa", relation(5, []int{99, 0, 10, 9, 1})), table("ab", relation(2, []int{0, 1}, []int{0, 2}))), "aaaa=5:(99,0,10,9,1)\nab=2:(0,1) (0,2)\n"},
		{database(table("r", relation(0))), ""},
		{database(table("R", relation(1))), ""},
		{database(table("", relation(1))), ""},
		{database(table("s", relation(1)), table("r", relation(1))), ""},
		{database(table("r", relation(1)), table("r", relation(1))), ""},
	} {
		if got := impl.FormatDatabase(c.db); got != c.want {
			t.Errorf("FormatDatabase(%s) = %q, want %q", describeDatabase(c.db), got, c.want)
		}
	}
	for _, db := range validDatabases() {
		if got := impl.FormatDatabase(db); got != plainFormatDatabase(db) {
			t.Errorf("FormatDatabase(%s) = %q", describeDatabase(db), got)
		}
	}
	for _, db := range invalidDatabases() {
		if got := impl.FormatDatabase(db); got != "" {
			t.Errorf("FormatDatabase(%s) = %.60q", describeDatabase(db), got)
		}
	}
}

// plainParseDatabase is the test's own parser of databases.
func plainParseDatabase(s string) (impl.Database, bool) {
	db := impl.Database{}
	if s != "" && !strings.HasSuffix(s, "\n") {
		return impl.Database{}, false
	}
	for _, line := range strings.SplitAfter(s, "\n") {
		if line == "" {
			continue
		}
		parts := strings.SplitN(strings.TrimSuffix(line, "\n"), "=", 2)
		if len(parts) != 2 {
			return impl.Database{}, false
		}
		r, ok := plainParse(parts[1])
		if !ok {
			return impl.Database{}, false
		}
		db.Tables = append(db.Tables, table(parts[0], r))
	}
	if !plainIsValidDatabase(db) {
		return impl.Database{}, false
	}
	return db, true
}

func checkParseDatabase(t *testing.T, s string) {
	t.Helper()
	want, wantOk := plainParseDatabase(s)
	got, ok := impl.ParseDatabase(s)
	if !sameDatabases(got, want) || ok != wantOk {
		t.Fatalf("ParseDatabase(%.80q) = %s, %v", s, describeDatabase(got), ok)
	}
	if ok && (impl.FormatDatabase(got) != s || !impl.IsValidDatabase(got)) {
		t.Fatalf("%.80q is parsed, but is not the format of %s", s, describeDatabase(got))
	}
}

func TestParseDatabase(t *testing.T) {
	for _, db := range validDatabases() {
		got, ok := impl.ParseDatabase(plainFormatDatabase(db))
		checkDatabase(t, "ParseDatabase of the format of "+describeDatabase(db), got, ok, db, true)
	}
	got, ok := impl.ParseDatabase("")
	checkDatabase(t, "ParseDatabase of the empty string", got, ok, database(), true)
	got, ok = impl.ParseDatabase("r=1:(4)\nt=2:\n")
	checkDatabase(t, "ParseDatabase", got, ok, database(table("r", relation(1, []int{4})), table("t", relation(2))), true)
}

func TestParseDatabaseRejects(t *testing.T) {
	for _, s := range []string{
		"r=1:", "s=1:\nr=1:\n", "r=1:\nr=1:\n", "r=0:\n", "r=0:()\n", "r=6:\n", "R=1:\n", "=1:\n", "1:\n", "r\n", "r=\n", "r1:\n", "r==1:\n", "r=r=1:\n", "abcde=1:\n",
		"\n", "\n\n", " ", "r=1:\n\n", "\nr=1:\n", "r=1:\n\ns=1:\n", "r=1:\n ", "r=1:\r\n", "r=1: \n", " r=1:\n", "r =1:\n", "r= 1:\n", "r=1:\ns=1:", "r=1:s=1:\n", "r=1:,s=1:\n", "r=1: s=1:\n",
		"r=1:(1)(2)\n", "r=1:(2) (1)\n", "r=1:(1) (1)\n", "r=1:(100)\n", "r=1:(01)\n", "r=1:(-1)\n", "r=2:(1)\n", "r=1:(1)\n(2)\n", "r=1:(1) \n", "r=1:\x00\n", "r=1:\n\x00", "\x00", "\xff", "é=1:\n",
		"a=1:\nb=1:\nc=1:\nd=1:\ne=1:\nf=1:\ng=1:\n", "a=1:\nb=1:\nc=1:\nd=1:\ne=1:\nf=1:\n\n", "a=1:\nb=1:\nc=1:\nd=1:\ne=1:\nf=1:\n ",
		"r=" + plainFormatRelation(relation(2, manyRows(2, tableRowLimit+1)...)) + "\n", "r=" + plainFormatRelation(relation(5, manyRows(5, rowLimit)...)) + "\n",
	} {
		got, ok := impl.ParseDatabase(s)
		checkDatabase(t, fmt.Sprintf("ParseDatabase(%.60q)", s), got, ok, database(), false)
		checkParseDatabase(t, s)
	}
	for _, name := range invalidNames {
		for _, s := range []string{name + "=1:\n", "a=1:\n" + name + "=1:\n", name + "=1:\nz=1:\n", name + "\n"} {
			got, ok := impl.ParseDatabase(s)
			checkDatabase(t, fmt.Sprintf("ParseDatabase(%.60q)", s), got, ok, database(), false)
		}
	}
}

func TestParseDatabaseAcceptsNothingElse(t *testing.T) {
	for _, s := range slices.Concat(allStrings(allBytes(), 2), allStrings("ab=1:\n", 6), allStrings("a=1:()\n", 6)) {
		checkParseDatabase(t, s)
	}
	for _, prefix := range []string{"a=", "a=1:", "a=1:\n", "a=1:\nb=", "a=1:\nb=1:", "b=2:(0,0)", "aaaa=1:(1)\naaab", "a=1:\nb=1:\nc=1:\nd=1:\ne=1:\n", "a=1:\nb=1:\nc=1:\nd=1:\ne=1:\nf=1:\n"} {
		for _, s := range allStrings("01(),: =ab\n", 4) {
			checkParseDatabase(t, prefix+s)
			checkParseDatabase(t, prefix+s+"\n")
			checkParseDatabase(t, prefix+s+"=1:\n")
		}
	}
}

func TestParseDatabaseWithOneChange(t *testing.T) {
	for _, s := range []string{
		"r=1:\n", "r=1:(4)\nt=2:\n", "ab=2:(0,1) (0,2)\nabc=1:(9) (10)\nb=3:(1,2,3)\n", "a=1:\nb=2:\nc=3:\nd=4:\ne=5:\nf=1:(0)\n",
		plainFormatDatabase(database(table("q", relation(2, manyRows(2, tableRowLimit)...)))),
		plainFormatDatabase(database(table("q", relation(1, rowsOfLength(allValues(), 1)[:tableRowLimit]...)), table("zzzz", relation(5, make([]int, 5))))),
	} {
		for _, changed := range changesOf(s) {
			checkParseDatabase(t, changed)
		}
	}
}

func TestParseLongDatabases(t *testing.T) {
	for _, part := range []string{"\n", "=", ":", "a", "a=", "a=1:\n", "a=1:", "(1) ", "(1)\n", "1", "\x00", "a=1:\n\n"} {
		for _, prefix := range []string{"", "a", "a=", "a=1:", "a=1:\n", "a=1:\nb=2:(1,1)", "a=1:\nb=1:\nc=1:\nd=1:\ne=1:\nf=1:\n"} {
			checkParseDatabase(t, prefix+strings.Repeat(part, 30000))
			checkParseDatabase(t, prefix+strings.Repeat(part, 30000)+"\n")
		}
	}
	full := plainFormatRelation(relation(5, manyRows(5, rowLimit)...))
	for _, s := range []string{"a=" + full, "a=" + full + "\n", "a=1:\nb=" + full + "\n", strings.Repeat("a="+full+"\n", 8)} {
		checkParseDatabase(t, s)
	}
}

// guardedDatabase returns the database with its tables in the middle of one
// array and with unused capacity everywhere, and a function that reports
// whether all of this memory is as it was.
func guardedDatabase(db impl.Database) (impl.Database, func() bool) {
	guard := table("grd", relation(1, []int{7}))
	tables := []impl.Table{guard}
	var checks []func() bool
	for _, x := range db.Tables {
		r, isAsBefore := guardedRelation(x.Relation)
		tables = append(tables, table(x.Name, r))
		checks = append(checks, isAsBefore)
	}
	tables = append(tables, guard, guard, guard)
	saved := cloneOfDatabase(database(tables...))
	isAsBefore := func() bool {
		for _, check := range checks {
			if !check() {
				return false
			}
		}
		return sameDatabases(database(tables...), saved)
	}
	return impl.Database{Tables: tables[1 : len(db.Tables)+1]}, isAsBefore
}

// overwriteDatabase writes to all of the tables and their rows, to unused
// capacity too.
func overwriteDatabase(db impl.Database) {
	all := db.Tables[:cap(db.Tables)]
	for i := range all {
		overwriteRows(all[i].Relation)
		all[i] = table("over", relation(77, []int{77}))
	}
}

// tablesShareMemory reports whether two rows of any tables, or two lists of
// rows, share memory.
func tablesShareMemory(db impl.Database) bool {
	var rows [][]int
	for _, x := range db.Tables {
		rows = append(rows, x.Relation.Rows...)
	}
	if rowsShareMemory(relation(0, rows...)) {
		return true
	}
	for i, x := range db.Tables {
		list := x.Relation.Rows[:cap(x.Relation.Rows)]
		for k := range list {
			list[k] = []int{i}
		}
	}
	for i, x := range db.Tables {
		for _, row := range x.Relation.Rows[:cap(x.Relation.Rows)] {
			if row[0] != i {
				return true
			}
		}
	}
	return false
}

type databaseCall struct {
	name string
	call func(db impl.Database, name string, r impl.Relation) (impl.Database, bool)
}

func databaseCalls() []databaseCall {
	return []databaseCall{
		{"SetRelation", impl.SetRelation},
		{"LookupRelation", func(db impl.Database, name string, r impl.Relation) (impl.Database, bool) {
			found, ok := impl.LookupRelation(db, name)
			return database(table(name, found)), ok
		}},
		{"ParseDatabase", func(db impl.Database, name string, r impl.Relation) (impl.Database, bool) {
			return impl.ParseDatabase(impl.FormatDatabase(db))
		}},
	}
}

// databaseMemoryProblem overwrites the result of a call and looks for the change
// in the results of other calls and in the arguments.
func databaseMemoryProblem(call func() (impl.Database, bool), areArgumentsAsBefore func() bool) string {
	result, ok := call()
	want := cloneOfDatabase(result)
	again, againOk := call()
	overwriteDatabase(result)
	// The next call might restore the values that were overwritten.
	kept := cloneOfDatabase(again)
	later, laterOk := call()
	switch {
	case !sameDatabases(kept, want) || !sameDatabases(later, want) || againOk != ok || laterOk != ok:
		return "the result changes with the previous one"
	case tablesShareMemory(again):
		return "parts of the result share memory"
	case !areArgumentsAsBefore():
		return "the call or a write to its result modifies an argument"
	}
	return ""
}

// checkDatabaseMemory calls each function with guarded arguments.
func checkDatabaseMemory(t *testing.T, first impl.Database, name string, second impl.Relation) {
	t.Helper()
	db, isDatabaseAsBefore := guardedDatabase(first)
	r, isRelationAsBefore := guardedRelation(second)
	areAsBefore := func() bool { return isDatabaseAsBefore() && isRelationAsBefore() }
	impl.IsValidDatabase(db)
	impl.EqualDatabases(db, first)
	for _, c := range databaseCalls() {
		call := func() (impl.Database, bool) { return c.call(db, name, r) }
		if problem := databaseMemoryProblem(call, areAsBefore); problem != "" {
			t.Fatalf("%s(%s, %.20q, %s): %s", c.name, describeDatabase(first), name, describe(second), problem)
		}
	}
}

func TestDatabaseMemory(t *testing.T) {
	some := []impl.Relation{relation(1), relation(3, []int{1, 2, 3}), relation(2, manyRows(2, tableRowLimit)...), relation(0), relation(2, []int{1, 0}, []int{0, 1}), relation(2, manyRows(2, 100)...)}
	for i, db := range allDatabases() {
		names := []string{"aa", "r", "zzzz", "", "Q"}
		for _, x := range db.Tables[:min(len(db.Tables), tableLimit)] {
			names = append(names, x.Name)
		}
		for k, name := range names {
			checkDatabaseMemory(t, db, name, some[(i+k)%len(some)])
			checkDatabaseMemory(t, db, name, relation(1, []int{i % 100}))
		}
	}
}

// TestDatabaseTablesMayOverlap passes one relation in several tables, and as
// the relation to be stored.
func TestDatabaseTablesMayOverlap(t *testing.T) {
	array := []int{9, 3, 4, 3, 5, 8}
	saved := slices.Clone(array)
	r := relation(2, array[1:3], array[3:5])
	unordered := relation(2, array[1:3], array[1:3])
	for _, db := range []impl.Database{
		database(table("r", r), table("s", r), table("t", relation(2, r.Rows[:1]...)), table("u", relation(2, r.Rows[1:]...))),
		database(table("r", r), table("s", unordered)),
	} {
		for _, name := range []string{"r", "s", "u", "a", "z", ""} {
			for _, c := range databaseCalls() {
				want, wantOk := c.call(cloneOfDatabase(db), name, cloneOf(r))
				got, ok := c.call(db, name, r)
				checkDatabase(t, c.name+" of overlapping tables", got, ok, want, wantOk)
				if tablesShareMemory(got) || !slices.Equal(array, saved) {
					t.Errorf("the result of %s shares memory", c.name)
				}
			}
		}
	}
}
