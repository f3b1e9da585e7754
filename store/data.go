package store

import (
	"annals/api"
	"annals/codec"
	"annals/heap"
	"annals/period"
)

// head is how many values of a version's data stand ahead of the row's: its table's number, From and To.
const head = 3

// encoded is the data of a fact of a table, if it can be written.
func encoded(table int, f api.Fact) ([]byte, api.Errno) {
	if table < 0 {
		return nil, api.ErrRange
	}
	if e := period.Check(f.Period); e != api.OK {
		return nil, e
	}
	values := append([]api.Value{number(int64(table)), number(f.Period.From), number(f.Period.To)}, f.Row...)
	data, e := codec.Encode(values...)
	if e != api.OK {
		return nil, e
	}
	if len(data) > heap.MaxData {
		return nil, api.ErrLong
	}
	return data, api.OK
}

func number(n int64) api.Value { return api.Value{Kind: api.Int, Int: n} }

// decoded is the fact of a version's data, and whether it is one.
func decoded(data []byte) (Part, bool) {
	values, fault := codec.Decode(data)
	if fault != (api.Fault{}) || len(values) < head {
		return Part{}, false
	}
	for _, v := range values[:head] {
		if v.Kind != api.Int {
			return Part{}, false
		}
	}
	table, valid := values[0].Int, api.Period{From: values[1].Int, To: values[2].Int}
	if table < 0 || period.Check(valid) != api.OK {
		return Part{}, false
	}
	return Part{Table: int(table), Fact: api.Fact{Row: values[head:], Period: valid}}, true
}
