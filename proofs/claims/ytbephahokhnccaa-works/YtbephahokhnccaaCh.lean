/-
  A region that draws its order: a chain of calls beside two new variables, walked once for each call.
-/
import Derived.Deep.RegionHeld
import Derived.Below
namespace Go.Proofs.Ytbephahokhnccaa
open Go.RowKit

def ptr (p : Nat) : Value := .pointer (some ⟨p, 0, none⟩)
def puts (a : Act) : List (Tmp × Value) → Act
  | [] => a
  | p :: l => puts (a.put (some p.1) p.2) l
def fu (f : Nat) : Bool → Bool → Nat
  | true, true => f
  | true, false => f + 1
  | false, true => f + 1
  | false, false => f + 2
def rd (c : List Nat) (i j : Nat) : Bool → Bool → List Nat
  | true, true => c
  | true, false => c ++ [j]
  | false, true => c ++ [i]
  | false, false => c ++ [i, j]
def Atp (W0 : World) (Z : World → Nat → Prop) (w : World) (x : Value) : Prop := ∃ p, x = ptr p ∧ W0.heap.size ≤ p ∧ p < w.heap.size ∧ Z w p
theorem blw1 (W : World) (o : Obj) : Below W.heap.size W (W.alloc o) := (Below.refl _ _).alloc (Nat.le_refl _) _
theorem blwo {W0 W w' : World} (h : Below W0.heap.size W0 W) (hb : Below W.heap.size W w') : Below W0.heap.size W0 w' := h.trans (hb.mono h.size)

variable {P : Program} {ops : Array Oper} {Q : Exit → Act → World → Prop} {W0 : World} {ZA ZB : World → Nat → Prop}

structure Rg (P : Program) (ops : Array Oper) (Q : Exit → Act → World → Prop) (ZA ZB : World → Nat → Prop) (iA iB : Nat) (dA dB : Tmp) (oA oB : Obj) : Prop where
  wA : ∀ a w (K : Act → World → Prop), K (a.put (some dA) (ptr w.heap.size)) (w.alloc oA) → wpOp P ops Q iA K a w
  wB : ∀ a w (K : Act → World → Prop), K (a.put (some dB) (ptr w.heap.size)) (w.alloc oB) → wpOp P ops Q iB K a w
  nA : ∀ w : World, ZA (w.alloc oA) w.heap.size
  nB : ∀ w : World, ZB (w.alloc oB) w.heap.size
  kA : ∀ (w w' : World) p, p < w.heap.size → Below w.heap.size w w' → ZA w p → ZA w' p
  kB : ∀ (w w' : World) p, p < w.heap.size → Below w.heap.size w w' → ZB w p → ZB w' p

/-- All orders from here on, whichever of the two variables are made. -/
def Nd (P : Program) (ops : Array Oper) (Q : Exit → Act → World → Prop) (W0 : World) (ZA ZB : World → Nat → Prop) (f : Nat) (L : Bool → Bool → Array Bool) (T : Value → Value → Act) : Prop :=
  ∀ bA bB x y w, Below W0.heap.size W0 w → (bA = true → Atp W0 ZA w x) → (bB = true → Atp W0 ZB w y) → (bA = true → bB = true → x ≠ y) →
    wpAnyH P .any ops Q (fun W => Below W0.heap.size W0 W) (fu f bA bB) (L bA bB) (T x y) w

theorem Atp.keep {Z : World → Nat → Prop} (k : ∀ (w w' : World) p, p < w.heap.size → Below w.heap.size w w' → Z w p → Z w' p) {w w' : World} {x : Value} (h : Atp W0 Z w x) (hb : Below w.heap.size w w') : Atp W0 Z w' x := by
  obtain ⟨p, e, h1, h2, h3⟩ := h
  exact ⟨p, e, h1, Nat.lt_of_lt_of_le h2 hb.size, k _ _ _ h2 hb h3⟩
theorem Atp.ne {Z : World → Nat → Prop} {w : World} {x : Value} (h : Atp W0 Z w x) : x ≠ ptr w.heap.size := by
  obtain ⟨p, rfl, h1, h2, h3⟩ := h
  intro e
  simp only [ptr, Value.pointer.injEq, Option.some.injEq, Addr.mk.injEq, and_true] at e
  omega
theorem Atp.new {Z : World → Nat → Prop} {w : World} {o : Obj} (h : Below W0.heap.size W0 w) (n : Z (w.alloc o) w.heap.size) : Atp W0 Z (w.alloc o) (ptr w.heap.size) := ⟨_, rfl, h.size, by simp, n⟩

theorem nd_walk {iA iB : Nat} {dA dB : Tmp} {oA oB : Obj} {f : Nat} {L : Bool → Bool → Array Bool} {T : Value → Value → Act} {cs : List Nat} (R : Rg P ops Q ZA ZB iA iB dA dB oA oB)
    (hr : ∀ bA bB, Region.ready .any ops (L bA bB) = rd cs iA iB bA bB)
    (tA : ∀ x y v, (T x y).put (some dA) v = T v y) (tB : ∀ x y v, (T x y).put (some dB) v = T x v)
    (lA : ∀ b, (L false b).setIfInBounds iA true = L true b) (lB : ∀ b, (L b false).setIfInBounds iB true = L b true)
    (hc : ∀ c ∈ cs, ∀ bA bB x y w, Below W0.heap.size W0 w → (bA = true → Atp W0 ZA w x) → (bB = true → Atp W0 ZB w y) → (bA = true → bB = true → x ≠ y) →
      wpOp P ops Q c (fun a' w' => Below W0.heap.size W0 w' ∧ wpAnyH P .any ops Q (fun W => Below W0.heap.size W0 W) (fu f bA bB) ((L bA bB).setIfInBounds c true) a' w') (T x y) w)
    (h0 : ∀ x y w, Below W0.heap.size W0 w → Atp W0 ZA w x → Atp W0 ZB w y → x ≠ y → wpAnyH P .any ops Q (fun W => Below W0.heap.size W0 W) (f + 1) (L true true) (T x y) w) :
    Nd P ops Q W0 ZA ZB (f + 1) L T := by
  have hB1 : ∀ x y w, Below W0.heap.size W0 w → Atp W0 ZA w x → wpAnyH P .any ops Q (fun W => Below W0.heap.size W0 W) (f + 2) (L true false) (T x y) w := by
    intro x y w h a
    refine wpAnyH_all (rs := cs ++ [iB]) (hr true false) (by simp) (fun i hi => ?_)
    rcases List.mem_append.1 hi with hi | hi
    · exact hc i hi true false x y w h (fun _ => a) (fun e => nomatch e) (fun _ e => nomatch e)
    · obtain rfl := List.mem_singleton.1 hi
      refine R.wB _ _ _ ⟨blwo h (blw1 _ _), ?_⟩
      rw [lB, tB]
      exact h0 _ _ _ (blwo h (blw1 _ _)) (a.keep R.kA (blw1 _ _)) (Atp.new h (R.nB w)) a.ne
  have hA1 : ∀ x y w, Below W0.heap.size W0 w → Atp W0 ZB w y → wpAnyH P .any ops Q (fun W => Below W0.heap.size W0 W) (f + 2) (L false true) (T x y) w := by
    intro x y w h b
    refine wpAnyH_all (rs := cs ++ [iA]) (hr false true) (by simp) (fun i hi => ?_)
    rcases List.mem_append.1 hi with hi | hi
    · exact hc i hi false true x y w h (fun e => nomatch e) (fun _ => b) (fun e => nomatch e)
    · obtain rfl := List.mem_singleton.1 hi
      refine R.wA _ _ _ ⟨blwo h (blw1 _ _), ?_⟩
      rw [lA, tA]
      exact h0 _ _ _ (blwo h (blw1 _ _)) (Atp.new h (R.nA w)) (b.keep R.kB (blw1 _ _)) (Ne.symm b.ne)
  intro bA bB x y w h a b n
  cases bA <;> cases bB
  · refine wpAnyH_all (rs := cs ++ [iA, iB]) (hr false false) (by simp) (fun i hi => ?_)
    rcases List.mem_append.1 hi with hi | hi
    · exact hc i hi false false x y w h (fun e => nomatch e) (fun e => nomatch e) (fun e => nomatch e)
    · simp only [List.mem_cons, List.not_mem_nil, or_false] at hi
      rcases hi with rfl | rfl
      · refine R.wA _ _ _ ⟨blwo h (blw1 _ _), ?_⟩
        rw [lA, tA]
        exact hB1 _ _ _ (blwo h (blw1 _ _)) (Atp.new h (R.nA w))
      · refine R.wB _ _ _ ⟨blwo h (blw1 _ _), ?_⟩
        rw [lB, tB]
        exact hA1 _ _ _ (blwo h (blw1 _ _)) (Atp.new h (R.nB w))
  · exact hA1 x y w h (b rfl)
  · exact hB1 x y w h (a rfl)
  · exact h0 x y w h (a rfl) (b rfl) (n rfl rfl)

/-- The next call of the chain comes up, in whatever order beside the two variables; 'tk': what is taken first behind it. -/
theorem Nd.step {iA iB : Nat} {dA dB : Tmp} {oA oB : Obj} {f f' : Nat} {L L' : Bool → Bool → Array Bool} {T : Value → Value → Act} {c : Nat} {o : Oper} {d : Tmp} {v : Value} {l : List (Tmp × Value)} (R : Rg P ops Q ZA ZB iA iB dA dB oA oB) (ho : ops[c]? = some o)
    (hf : f = f' + l.length + 1) (hr : ∀ bA bB, Region.ready .any ops (L bA bB) = rd [c] iA iB bA bB)
    (tA : ∀ x y v, (T x y).put (some dA) v = T v y) (tB : ∀ x y v, (T x y).put (some dB) v = T x v)
    (lA : ∀ b, (L false b).setIfInBounds iA true = L true b) (lB : ∀ b, (L b false).setIfInBounds iB true = L b true)
    (hc : ∀ x y w (K : Act → World → Prop), Below W0.heap.size W0 w → Shut (∀ w', Below w.heap.size w w' → K ((T x y).put (some d) v) w') → if Region.wanted o (yielded ops (T x y).tmps) = true then Oper.wp P o (T x y) w K Q else K ((T x y).put o.dst undef) w)
    (tk : ∀ bA bB x y w, Below W0.heap.size W0 w → Shut (wpAnyH P .any ops Q (fun W => Below W0.heap.size W0 W) (fu f' bA bB) (L' bA bB) (puts ((T x y).put (some d) v) l) w) → wpAnyH P .any ops Q (fun W => Below W0.heap.size W0 W) (fu f' bA bB + l.length) ((L bA bB).setIfInBounds c true) ((T x y).put (some d) v) w)
    (nx : Nd P ops Q W0 ZA ZB f' L' (fun x y => puts ((T x y).put (some d) v) l)) : Nd P ops Q W0 ZA ZB f L T := by
  subst hf
  have fe : ∀ bA bB, fu (f' + l.length) bA bB = fu f' bA bB + l.length := by intro a b; cases a <;> cases b <;> simp [fu] <;> omega
  have H : ∀ bA bB x y w, Below W0.heap.size W0 w → (bA = true → Atp W0 ZA w x) → (bB = true → Atp W0 ZB w y) → (bA = true → bB = true → x ≠ y) →
      wpOp P ops Q c (fun a' w' => Below W0.heap.size W0 w' ∧ wpAnyH P .any ops Q (fun W => Below W0.heap.size W0 W) (fu (f' + l.length) bA bB) ((L bA bB).setIfInBounds c true) a' w') (T x y) w := by
    intro bA bB x y w h a b n
    refine wpOp_step ho (fun K' hK => hc x y w K' h (fun w' hb => hK _ _ ⟨blwo h hb, ?_⟩))
    rw [fe]
    exact tk bA bB x y w' (blwo h hb) (nx bA bB x y w' (blwo h hb) (fun e => (a e).keep R.kA hb) (fun e => (b e).keep R.kB hb) n)
  refine nd_walk R hr tA tB lA lB (cs := [c]) (fun i hi => ?_) (fun x y w h a b n => ?_)
  · obtain rfl := List.mem_singleton.1 hi
    exact H
  · refine wpAnyH_all (rs := [c]) (hr true true) (by simp) (fun i hi => ?_)
    obtain rfl := List.mem_singleton.1 hi
    exact H true true x y w h (fun _ => a) (fun _ => b) (fun _ _ => n)

/-- All calls are done. -/
theorem Nd.last {iA iB : Nat} {dA dB : Tmp} {oA oB : Obj} {f : Nat} {L : Bool → Bool → Array Bool} {T : Value → Value → Act} (R : Rg P ops Q ZA ZB iA iB dA dB oA oB)
    (hff : Region.ready .any ops (L false false) = [iA, iB]) (hft : Region.ready .any ops (L false true) = [iA]) (htf : Region.ready .any ops (L true false) = [iB])
    (tA : ∀ x y v, (T x y).put (some dA) v = T v y) (tB : ∀ x y v, (T x y).put (some dB) v = T x v)
    (lA : ∀ b, (L false b).setIfInBounds iA true = L true b) (lB : ∀ b, (L b false).setIfInBounds iB true = L b true)
    (h0 : ∀ p q w, Below W0.heap.size W0 w → W0.heap.size ≤ p → p < w.heap.size → W0.heap.size ≤ q → q < w.heap.size → p ≠ q → ZA w p → ZB w q → wpAnyH P .any ops Q (fun W => Below W0.heap.size W0 W) (f + 1) (L true true) (T (ptr p) (ptr q)) w) :
    Nd P ops Q W0 ZA ZB (f + 1) L T := by
  have h0 : ∀ x y w, Below W0.heap.size W0 w → Atp W0 ZA w x → Atp W0 ZB w y → x ≠ y → wpAnyH P .any ops Q (fun W => Below W0.heap.size W0 W) (f + 1) (L true true) (T x y) w := by
    rintro x y w h ⟨p, rfl, a1, a2, a3⟩ ⟨q, rfl, b1, b2, b3⟩ n
    exact h0 p q w h a1 a2 b1 b2 (fun e => n (by rw [e])) a3 b3
  intro bA bB x y w h a b n
  cases bA <;> cases bB
  · refine wpAnyH_all (rs := [iA, iB]) hff (by simp) (fun i hi => ?_)
    simp only [List.mem_cons, List.not_mem_nil, or_false] at hi
    rcases hi with rfl | rfl
    · refine R.wA _ _ _ ⟨blwo h (blw1 _ _), ?_⟩
      rw [lA, tA]
      refine wpAnyH_all (rs := [iB]) htf (by simp) (fun i hi => ?_)
      obtain rfl := List.mem_singleton.1 hi
      refine R.wB _ _ _ ⟨blwo (blwo h (blw1 _ _)) (blw1 _ _), ?_⟩
      rw [lB, tB]
      have h' := blwo h (blw1 w oA)
      have a' := Atp.new h (R.nA w)
      exact h0 _ _ _ (blwo h' (blw1 _ _)) (a'.keep R.kA (blw1 _ _)) (Atp.new h' (R.nB _)) a'.ne
    · refine R.wB _ _ _ ⟨blwo h (blw1 _ _), ?_⟩
      rw [lB, tB]
      refine wpAnyH_all (rs := [iA]) hft (by simp) (fun i hi => ?_)
      obtain rfl := List.mem_singleton.1 hi
      refine R.wA _ _ _ ⟨blwo (blwo h (blw1 _ _)) (blw1 _ _), ?_⟩
      rw [lA, tA]
      have h' := blwo h (blw1 w oB)
      have b' := Atp.new h (R.nB w)
      exact h0 _ _ _ (blwo h' (blw1 _ _)) (Atp.new h' (R.nA _)) (b'.keep R.kB (blw1 _ _)) (Ne.symm b'.ne)
  · refine wpAnyH_all (rs := [iA]) hft (by simp) (fun i hi => ?_)
    obtain rfl := List.mem_singleton.1 hi
    refine R.wA _ _ _ ⟨blwo h (blw1 _ _), ?_⟩
    rw [lA, tA]
    exact h0 _ _ _ (blwo h (blw1 _ _)) (Atp.new h (R.nA w)) ((b rfl).keep R.kB (blw1 _ _)) (Ne.symm (b rfl).ne)
  · refine wpAnyH_all (rs := [iB]) htf (by simp) (fun i hi => ?_)
    obtain rfl := List.mem_singleton.1 hi
    refine R.wB _ _ _ ⟨blwo h (blw1 _ _), ?_⟩
    rw [lB, tB]
    exact h0 _ _ _ (blwo h (blw1 _ _)) ((a rfl).keep R.kA (blw1 _ _)) (Atp.new h (R.nB w)) (a rfl).ne
  · exact h0 _ _ _ h (a rfl) (b rfl) (n rfl rfl)

/-- None of the two is made yet. -/
theorem Nd.start {iA iB : Nat} {dA dB : Tmp} {oA oB : Obj} {f : Nat} {L : Bool → Bool → Array Bool} {listed : Array Bool} {a : Act} {w : World}
    (R : Rg P ops Q ZA ZB iA iB dA dB oA oB) (hl : L false false = listed) (x y : Value) (ha : (a.put (some dA) x).put (some dB) y = a) (h : Below W0.heap.size W0 w)
    (nd : Rg P ops Q ZA ZB iA iB dA dB oA oB → Nd P ops Q W0 ZA ZB f L (fun x y => (a.put (some dA) x).put (some dB) y)) : wpAnyH P .any ops Q (fun W => Below W0.heap.size W0 W) (f + 2) listed a w := by
  have this : wpAnyH P .any ops Q (fun W => Below W0.heap.size W0 W) (f + 2) (L false false) ((a.put (some dA) x).put (some dB) y) w := nd R false false x y w h (fun e => nomatch e) (fun e => nomatch e) (fun e => nomatch e)
  rw [hl, ha] at this
  exact this

/-! The same beside one variable. -/
structure Rg1 (P : Program) (ops : Array Oper) (Q : Exit → Act → World → Prop) (ZA : World → Nat → Prop) (iA : Nat) (dA : Tmp) (oA : Obj) : Prop where
  wA : ∀ a w (K : Act → World → Prop), K (a.put (some dA) (ptr w.heap.size)) (w.alloc oA) → wpOp P ops Q iA K a w
  nA : ∀ w : World, ZA (w.alloc oA) w.heap.size
  kA : ∀ (w w' : World) p, p < w.heap.size → Below w.heap.size w w' → ZA w p → ZA w' p
def fu1 (f : Nat) : Bool → Nat
  | true => f
  | false => f + 1
def rd1 (c : List Nat) (i : Nat) : Bool → List Nat
  | true => c
  | false => c ++ [i]
def Nd1 (P : Program) (ops : Array Oper) (Q : Exit → Act → World → Prop) (W0 : World) (ZA : World → Nat → Prop) (f : Nat) (L : Bool → Array Bool) (T : Value → Act) : Prop :=
  ∀ bA x w, Below W0.heap.size W0 w → (bA = true → Atp W0 ZA w x) → wpAnyH P .any ops Q (fun W => Below W0.heap.size W0 W) (fu1 f bA) (L bA) (T x) w
theorem Nd1.step {iA : Nat} {dA : Tmp} {oA : Obj} {f f' : Nat} {L L' : Bool → Array Bool} {T : Value → Act} {c : Nat} {o : Oper} {d : Tmp} {v : Value} {l : List (Tmp × Value)} (R : Rg1 P ops Q ZA iA dA oA) (ho : ops[c]? = some o)
    (hf : f = f' + l.length + 1) (hr : ∀ bA, Region.ready .any ops (L bA) = rd1 [c] iA bA)
    (tA : ∀ x v, (T x).put (some dA) v = T v) (lA : (L false).setIfInBounds iA true = L true)
    (hc : ∀ x w (K : Act → World → Prop), Below W0.heap.size W0 w → Shut (∀ w', Below w.heap.size w w' → K ((T x).put (some d) v) w') → if Region.wanted o (yielded ops (T x).tmps) = true then Oper.wp P o (T x) w K Q else K ((T x).put o.dst undef) w)
    (tk : ∀ bA x w, Below W0.heap.size W0 w → Shut (wpAnyH P .any ops Q (fun W => Below W0.heap.size W0 W) (fu1 f' bA) (L' bA) (puts ((T x).put (some d) v) l) w) → wpAnyH P .any ops Q (fun W => Below W0.heap.size W0 W) (fu1 f' bA + l.length) ((L bA).setIfInBounds c true) ((T x).put (some d) v) w)
    (nx : Nd1 P ops Q W0 ZA f' L' (fun x => puts ((T x).put (some d) v) l)) : Nd1 P ops Q W0 ZA f L T := by
  subst hf
  have fe : ∀ bA, fu1 (f' + l.length) bA = fu1 f' bA + l.length := by intro a; cases a <;> simp [fu1] <;> omega
  have H : ∀ bA x w, Below W0.heap.size W0 w → (bA = true → Atp W0 ZA w x) →
      wpOp P ops Q c (fun a' w' => Below W0.heap.size W0 w' ∧ wpAnyH P .any ops Q (fun W => Below W0.heap.size W0 W) (fu1 (f' + l.length) bA) ((L bA).setIfInBounds c true) a' w') (T x) w := by
    intro bA x w h a
    refine wpOp_step ho (fun K' hK => hc x w K' h (fun w' hb => hK _ _ ⟨blwo h hb, ?_⟩))
    rw [fe]
    exact tk bA x w' (blwo h hb) (nx bA x w' (blwo h hb) (fun e => (a e).keep R.kA hb))
  have h0 : ∀ x w, Below W0.heap.size W0 w → Atp W0 ZA w x → wpAnyH P .any ops Q (fun W => Below W0.heap.size W0 W) (f' + l.length + 1) (L true) (T x) w := by
    intro x w h a
    refine wpAnyH_all (rs := [c]) (hr true) (by simp) (fun i hi => ?_)
    obtain rfl := List.mem_singleton.1 hi
    exact H true x w h (fun _ => a)
  intro bA x w h a
  cases bA
  · refine wpAnyH_all (rs := [c, iA]) (hr false) (by simp) (fun i hi => ?_)
    simp only [List.mem_cons, List.not_mem_nil, or_false] at hi
    rcases hi with rfl | rfl
    · exact H false x w h (fun e => nomatch e)
    · refine R.wA _ _ _ ⟨blwo h (blw1 _ _), ?_⟩
      rw [lA, tA]
      exact h0 _ _ (blwo h (blw1 _ _)) (Atp.new h (R.nA w))
  · exact h0 x w h (a rfl)
theorem Nd1.last {iA : Nat} {dA : Tmp} {oA : Obj} {f : Nat} {L : Bool → Array Bool} {T : Value → Act} (R : Rg1 P ops Q ZA iA dA oA)
    (hr : Region.ready .any ops (L false) = [iA]) (tA : ∀ x v, (T x).put (some dA) v = T v) (lA : (L false).setIfInBounds iA true = L true)
    (h0 : ∀ p w, Below W0.heap.size W0 w → W0.heap.size ≤ p → p < w.heap.size → ZA w p → wpAnyH P .any ops Q (fun W => Below W0.heap.size W0 W) f (L true) (T (ptr p)) w) :
    Nd1 P ops Q W0 ZA f L T := by
  intro bA x w h a
  cases bA
  · refine wpAnyH_all (rs := [iA]) hr (by simp) (fun i hi => ?_)
    obtain rfl := List.mem_singleton.1 hi
    refine R.wA _ _ _ ⟨blwo h (blw1 _ _), ?_⟩
    rw [lA, tA]
    exact h0 _ _ (blwo h (blw1 _ _)) h.size (by simp) (R.nA w)
  · obtain ⟨p, rfl, a1, a2, a3⟩ := a rfl
    exact h0 p w h a1 a2 a3
theorem Nd1.start {iA : Nat} {dA : Tmp} {oA : Obj} {f : Nat} {L : Bool → Array Bool} {listed : Array Bool} {a : Act} {w : World}
    (R : Rg1 P ops Q ZA iA dA oA) (hl : L false = listed) (x : Value) (ha : a.put (some dA) x = a) (h : Below W0.heap.size W0 w)
    (nd : Rg1 P ops Q ZA iA dA oA → Nd1 P ops Q W0 ZA f L (fun x => a.put (some dA) x)) : wpAnyH P .any ops Q (fun W => Below W0.heap.size W0 W) (f + 1) listed a w := by
  have this : wpAnyH P .any ops Q (fun W => Below W0.heap.size W0 W) (f + 1) (L false) (a.put (some dA) x) w := nd R false x w h (fun e => nomatch e)
  rw [hl, ha] at this
  exact this
end Go.Proofs.Ytbephahokhnccaa
