package code

import "orderly/api"

// steps is what an instruction does, by its kind.
var steps = [...]func(m *machine, i api.Ins){
	api.Const: func(m *machine, i api.Ins) { m.Registers[i.A] = i.B },
	// A key that has no value is not in the map, which answers 0 then.
	api.Get:    func(m *machine, i api.Ins) { m.Registers[i.A] = m.values[i.B] },
	api.Put:    func(m *machine, i api.Ins) { m.put(i.A, m.Registers[i.B]) },
	api.Delete: func(m *machine, i api.Ins) { m.remove(i.A) },
	api.Sum:    func(m *machine, i api.Ins) { m.Registers[i.A], _ = m.total(i.B) },
	api.Count:  func(m *machine, i api.Ins) { _, m.Registers[i.A] = m.total(i.B) },
	api.Add:    func(m *machine, i api.Ins) { m.Registers[i.A] = m.Registers[i.B] + m.Registers[i.C] },
	api.Sub:    func(m *machine, i api.Ins) { m.Registers[i.A] = m.Registers[i.B] - m.Registers[i.C] },
	api.Jump: func(m *machine, i api.Ins) {
		if m.Registers[i.A] < m.Registers[i.B] {
			m.next = i.C
		}
	},
	api.Abort: func(m *machine, i api.Ins) { m.abort() },
}
