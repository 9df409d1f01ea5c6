package sexpr

import (
	"errors"
	"testing"

	"telpher/api"
)

// A panic of any kind becomes a fault: Parse neither panics nor takes it for success.
func TestFaultOf(t *testing.T) {
	want := api.Fault{Kind: api.ErrTooDeep, Offset: 7}
	if got := faultOf(want); got != want {
		t.Errorf("the fault %v became %v", want, got)
	}
	for _, other := range []any{"text", 3, errors.New("other"), &want} {
		if got := faultOf(other); got != (api.Fault{Kind: api.ErrInvalid}) {
			t.Errorf("a panic with %v became %v", other, got)
		}
	}
}
