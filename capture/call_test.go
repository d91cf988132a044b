package capture

import "testing"

// Calls as statements, of each routine that one may call.
func TestWhomARoutineCalls(t *testing.T) {
	// One of the same list, ahead and behind.
	want(t, `
		procedure f; var a : integer; var b : integer;
		  procedure g1; begin a := 1; end;
		  procedure g2; begin g1(); g3(); end;
		  procedure g3; begin b := 1; end;
		  begin end;`, "f", "f$g1 a", "f$g2 a b", "f$g3 b")
	// One within: its own locals are none that it captures.
	want(t, `
		procedure f; var a : integer;
		  procedure g; var b : integer;
		    procedure h; var c : integer; begin a := 1; b := 1; c := 1; end;
		    begin h(); end;
		  begin g(); end;`, "f", "f$g a", "f$g$h a b")
	want(t, `
		procedure f; var a : integer;
		  procedure g; var b : integer;
		    procedure h; begin b := 1; end;
		    begin h(); end;
		  begin a := 1; g(); end;`, "f", "f$g", "f$g$h b")
	// One around, and one of the list in which one around stands: what is that one's own isn't captured by the call.
	want(t, `
		procedure f; var a : integer; var b : integer;
		  procedure g; var c : integer;
		    procedure h; begin g(); end;
		    procedure i; begin k(); end;
		    procedure j; begin f(); end;
		    procedure m; begin q(); end;
		    begin a := 1; c := 1; end;
		  procedure k; begin b := 1; end;
		  begin a := 1; end;
		procedure q; begin end;`, "f", "f$g a", "f$g$h a", "f$g$i b", "f$g$j", "f$g$m", "f$k b", "q")
	// Itself.
	want(t, `
		procedure f; var a : integer;
		  procedure g; var b : integer; begin a := 1; b := 1; g(); end;
		  procedure h; begin h(); end;
		  begin f(); end;`, "f", "f$g a", "f$h")
}

func TestRounds(t *testing.T) {
	// Two that call each other.
	want(t, `
		procedure f; var a : integer; var b : integer;
		  procedure g; begin a := 1; h(); end;
		  procedure h; begin g(); b := 1; end;
		  begin g(); end;`, "f", "f$g a b", "f$h a b")
	// Three, one of which uses something; and one that calls one of them, and one that is called.
	want(t, `
		procedure f; var a : integer; var b : integer; var c : integer;
		  procedure out; begin c := 1; end;
		  procedure g; begin h(); end;
		  procedure h; begin i(); out(); end;
		  procedure i; begin g(); a := 1; end;
		  procedure in; begin b := 1; i(); end;
		  begin end;`, "f", "f$out c", "f$g a c", "f$h a c", "f$i a c", "f$in a b c")
	// One around and one within it: the locals of the one around aren't what the one within captures by calling it.
	want(t, `
		procedure f; var a : integer; var b : integer;
		  procedure g; var c : integer; var d : integer;
		    procedure h; begin g(); c := 1; end;
		    procedure i; begin d := 1; h(); end;
		    procedure j; begin g(); end;
		    begin h(); i(); j(); a := 1; end;
		  procedure k; begin g(); b := 1; end;
		  begin f(); k(); end;`, "f", "f$g a", "f$g$h a c", "f$g$i a c d", "f$g$j a", "f$k a b")
	// What one within calls is called anew: nothing of it is the one around's.
	want(t, `
		procedure f;
		  var x : integer;
		  procedure c; begin x := 1; end;
		  procedure b; begin f(); end;
		  begin b(); c(); end;`, "f", "f$c x", "f$b")
}

func TestChains(t *testing.T) {
	want(t, `
		procedure f; var a : integer; var b : integer;
		  procedure g1; begin g2(); end;
		  procedure g2; begin g3(); end;
		  procedure g3; begin g4(); b := 1; end;
		  procedure g4; begin g5(); end;
		  procedure g5; begin a := 1; end;
		  begin g1(); end;`, "f", "f$g1 a b", "f$g2 a b", "f$g3 a b", "f$g4 a", "f$g5 a")
	want(t, `
		procedure f; var a : integer; var b : integer;
		  procedure g1; begin a := 1; end;
		  procedure g2; begin g1(); end;
		  procedure g3; begin g2(); b := 1; end;
		  procedure g4; begin g3(); end;
		  begin g4(); end;`, "f", "f$g1 a", "f$g2 a", "f$g3 a b", "f$g4 a b")
	// Down, across and up again.
	want(t, `
		procedure f; var a : integer;
		  procedure g; var b : integer;
		    procedure h; var c : integer;
		      procedure i; begin c := 1; k(); end;
		      begin i(); end;
		    procedure k; begin b := 1; m(); end;
		    begin h(); end;
		  procedure m; procedure n; begin a := 1; end; begin n(); end;
		  begin g(); end;`, "f", "f$g a", "f$g$h a b", "f$g$h$i a b c", "f$g$k a b", "f$m a", "f$m$n a")
}

// One that calls another captures what that one captures of the routines around both, and not what is its own local.
func TestCallersOfOneThatCaptures(t *testing.T) {
	want(t, `
		procedure f(pf : integer); var vf : integer;
		  procedure g(pg : integer); var vg : integer;
		    procedure h(ph : integer); var vh : integer;
		      procedure i; begin pf := vf; pg := vg; ph := vh; end;
		      begin i(); end;
		    procedure h2; begin h(1); end;
		    begin h2(); end;
		  procedure g2; begin g(1); end;
		  begin g2(); end;
		procedure f2; begin f(1); end;`,
		"f", "f$g pf vf", "f$g$h pf vf pg vg", "f$g$h$i pf vf pg vg ph vh", "f$g$h2 pf vf pg vg", "f$g2 pf vf", "f2")
}

// In whatever order they are named: of the outermost routine first, of each its parameters and then its variables.
func TestOrderOfWhatIsCaptured(t *testing.T) {
	want(t, `
		procedure f(d : integer; c : integer); var b : integer; var a : integer;
		  procedure g(d2 : integer; c2 : integer); var b2 : integer; var a2 : integer;
		    procedure h; begin a2 := b2 + c2 + d2 + a + b + c + d; end;
		    procedure i; begin d := c + a + d2 + a2; end;
		    procedure j; begin c2 := b; end;
		    procedure k; begin i(); j(); end;
		    begin j(); b := a; end;
		  begin end;`,
		"f", "f$g b a", "f$g$h d c b a d2 c2 b2 a2", "f$g$i d c a d2 a2", "f$g$j b c2", "f$g$k d c b a d2 c2 a2")
	// A routine's place among those of its list doesn't matter, nor a name's.
	want(t, `
		procedure z; begin end;
		procedure f; var z1 : char;
		  procedure y; begin end;
		  procedure g; var a1 : char;
		    procedure h; var m : char;
		      procedure i; begin write(m); write(a1); write(z1); end;
		      begin i(); end;
		    begin h(); end;
		  begin end;`,
		"z", "f", "f$y", "f$g z1", "f$g$h z1 a1", "f$g$h$i z1 a1 m")
}
