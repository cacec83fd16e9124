package source_test

import (
	"testing"

	"framewise/api"
	"framewise/source"
	"framewise/wire"
)

func TestLength(t *testing.T) {
	for n, want := range map[int]api.Errno{0: api.OK, 5: api.OK, 6: api.ErrLimit, -1: api.ErrLimit, 1 << 60: api.ErrLimit} {
		s := wire.Source{Rest: wire.Int(nil, n)}
		if m := source.Length(&s, 5); s.Err != want || want == api.OK && (m != n || len(s.Rest) > 0) || want != api.OK && (m != 0 || len(s.Rest) == 0) {
			t.Errorf("%d: %d %v", n, m, s)
		}
	}
	s := wire.Source{Rest: []byte{248}}
	if source.Length(&s, 5) != 0 || s.Err != api.ErrForm || source.Length(&s, 5) != 0 || source.Length(nil, 5) != 0 {
		t.Error("no length")
	}
}
