package catalog

import (
	"slices"

	"annals/api"
)

// head is how many values of a row stand ahead of the columns.
const head = 4

// Row: a table as a row.
func Row(t Table) []api.Value {
	indexed := 0
	if t.Indexed {
		indexed = 1
	}
	row := []api.Value{number(t.Id), text(t.Name), number(indexed), number(len(t.Columns))}
	for _, c := range t.Columns {
		row = append(row, text(c.Name), number(c.Kind))
	}
	for _, key := range t.Keys {
		row = append(row, text(key))
	}
	return row
}

// Read: the table of a row.
func Read(row []api.Value) (Table, api.Errno) {
	t, ok := guess(row)
	// What is guessed from a wrong row has another row than that.
	if !ok || t.Id < 1 || t.Id > MaxTables || Check(t) != api.OK || !slices.Equal(Row(t), row) {
		return Table{}, api.ErrForm
	}
	return t, api.OK
}

// guess is the only table that could have a row; false: there is none.
func guess(row []api.Value) (Table, bool) {
	if len(row) < head {
		return Table{}, false
	}
	count := row[3].Int
	if count < 0 || count > api.MaxColumns || len(row) < head+2*int(count) {
		return Table{}, false
	}
	t := Table{Id: int(row[0].Int), Name: row[1].Text, Indexed: row[2].Int == 1}
	keys := head + 2*int(count)
	for pair := range slices.Chunk(row[head:keys], 2) {
		t.Columns = append(t.Columns, api.Column{Name: pair[0].Text, Kind: int(pair[1].Int)})
	}
	for _, v := range row[keys:] {
		t.Keys = append(t.Keys, v.Text)
	}
	return t, true
}

func number(n int) api.Value { return api.Value{Kind: api.Int, Int: int64(n)} }

func text(s string) api.Value { return api.Value{Kind: api.Text, Text: s} }
