package scope

import "brocade/api"

// declared is what a program declares, by its names.
type declared struct {
	effects map[string]*api.Effect
	ops     map[string]*api.OpSig
	datas   map[string]*api.Data
	cons    map[string]constructor
}

// constructor is a constructor, and the data that it is of.
type constructor struct {
	*api.ConSig
	data *api.Data
}

// declare is what a program declares, and whether it may. All that may be wrong there is answered alike,
// so it does not matter in which order it is looked for.
func declare(p api.Program) (*declared, bool) {
	d := &declared{
		effects: map[string]*api.Effect{},
		ops:     map[string]*api.OpSig{},
		datas:   map[string]*api.Data{},
		cons:    map[string]constructor{},
	}
	return d, d.addDatas(p.Datas) && d.addEffects(p.Effects)
}

// addDatas adds all the data ahead of their constructors, whose fields may be of any of them.
func (d *declared) addDatas(datas []api.Data) bool {
	for i := range datas {
		if datas[i].Name == api.Console || !add(d.datas, datas[i].Name, &datas[i]) {
			return false
		}
	}
	for i := range datas {
		if !d.addCons(&datas[i]) {
			return false
		}
	}
	return true
}

func (d *declared) addCons(data *api.Data) bool {
	for i := range data.Cons {
		con := &data.Cons[i]
		if !add(d.cons, con.Name, constructor{con, data}) || !d.typesRight(con.Fields...) {
			return false
		}
	}
	return true
}

func (d *declared) addEffects(effects []api.Effect) bool {
	for i := range effects {
		effect := &effects[i]
		if effect.Name == api.Console || !add(d.effects, effect.Name, effect) || !d.addOps(effect) {
			return false
		}
	}
	return true
}

func (d *declared) addOps(effect *api.Effect) bool {
	for i := range effect.Ops {
		op := &effect.Ops[i]
		if !add(d.ops, op.Name, op) || !d.typesRight(op.Arg, op.Res) {
			return false
		}
	}
	return true
}

// add adds what a name stands for, if it is not empty and stands for nothing yet.
func add[A any](named map[string]A, name string, what A) bool {
	if _, known := named[name]; known || name == "" {
		return false
	}
	named[name] = what
	return true
}

// typesRight tells whether each of some types is int, bool, unit or of a data that is declared, with nothing else in it.
func (d *declared) typesRight(types ...api.Type) bool {
	for _, t := range types {
		if t.Var != 0 || len(t.Args) > 0 || len(t.Row.Labels) > 0 || t.Row.Var != 0 {
			return false
		}
		switch t.Kind {
		case api.TypInt, api.TypBool, api.TypUnit:
			if t.Name != "" {
				return false
			}
		case api.TypData:
			if d.datas[t.Name] == nil {
				return false
			}
		default:
			return false
		}
	}
	return true
}
