package source_test

import (
	"fmt"

	"brocade/api"
	"brocade/parse"
	"brocade/source"
	"brocade/value"
)

func ExampleRun() {
	program, _, _ := parse.Parse([]byte("handle E (get!()) { return x -> x; get a k -> k 1 + k 2 }"))
	run := source.Run(program, nil, 1000)
	if run.Outcome.Kind == api.OutValue {
		text, _ := value.Text(run.Outcome.Value)
		fmt.Println(text, run.Konts)
	}
	// Output: 3 1
}

func ExampleStart() {
	program, _, _ := parse.Parse([]byte("let _ = print (read () + 1) in read ()"))
	state := source.Start(program, []int{4})
	for state.Step() {
	}
	run := state.Now()
	fmt.Println(run.Trace, run.Outcome.Kind == api.OutInput, run.Steps)
	// Output: [5] true 10
}
