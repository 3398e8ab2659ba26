/-
  A walk in company that looks at no world: the rules.
-/
import Derived.Test.YtbephahokhnccaaGreatXB7toB8
import Derived.Conc.WgGenN3
set_option linter.unusedSectionVars false
namespace Go.Walk
open Go.Conc
/-- what is held of every world, and the step that does nothing -/
structure Env (R : World → World → Prop) (D : World → World → Array Event → Prop) (F : World → Prop) : Prop where
  cl : ∀ w w₁, F w → R w w₁ → F w₁
  nil : ∀ w, D w w #[]
/-- whatever the world, as long as F holds of it -/
def GoW (P : Program) (main : Bool) (R : World → World → Prop) (D : World → World → Array Event → Prop) (Stop : Goroutine → World → Prop) (F : World → Prop) (n : Nat) (g : Goroutine) : Prop := ∀ w, F w → Goes P main R D Stop n g w
section
variable {P : Program} {main : Bool} {R : World → World → Prop} {D : World → World → Array Event → Prop} {Stop : Goroutine → World → Prop} {F : World → Prop} {n : Nat} (E : Env R D F)
  {b : Frame} {a : Act} {k : List Item} {cs : List Frame}
theorem gw_step (E : Env R D F) {g g' : Goroutine} (hr : g.status = .running) (h : ∀ w, F w → stepG P main g w = .go g' w #[]) (hk : GoW P main R D Stop F n g') : GoW P main R D Stop F (n + 1) g :=
  fun w hw => Goes.step hr fun w₁ h₁ => by
    have hF := E.cl _ _ hw h₁
    rw [h w₁ hF]
    exact ⟨E.nil _, hk _ hF⟩
theorem gw_ev (E : Env R D F) {g g' : Goroutine} {es : Array Event} (hr : g.status = .running) (h : ∀ w, F w → stepG P main g w = .go g' w es) (hD : ∀ w, F w → D w w es) (hk : GoW P main R D Stop F n g') : GoW P main R D Stop F (n + 1) g :=
  fun w hw => Goes.step hr fun w₁ h₁ => by
    have hF := E.cl _ _ hw h₁
    rw [h w₁ hF]
    exact ⟨hD w₁ hF, hk _ hF⟩
theorem gw_stop (E : Env R D F) {g : Goroutine} (h : ∀ w, F w → Stop g w) : GoW P main R D Stop F n g := fun _ hw => Goes.stop fun w₁ h₁ => h w₁ (E.cl _ _ hw h₁)
theorem gw_seq (E : Env R D F) {x y : Code} (h : GoW P main R D Stop F n (G (b.at a (.code x :: .code y :: k)) cs)) : GoW P main R D Stop F (n + 1) (G (b.at a (.code (.seq x y) :: k)) cs) := gw_step E rfl (fun _ _ => stepG_seq) h
theorem gw_skip (E : Env R D F) (h : GoW P main R D Stop F n (G (b.at a k) cs)) : GoW P main R D Stop F (n + 1) (G (b.at a (.code .skip :: k)) cs) := gw_step E rfl (fun _ _ => stepG_skip) h
theorem gw_inBlock (E : Env R D F) {id : Nat} (h : GoW P main R D Stop F n (G (b.at a k) cs)) : GoW P main R D Stop F (n + 1) (G (b.at a (.inBlock id :: k)) cs) := gw_step E rfl (fun _ _ => stepG_inBlock) h
theorem gw_block (E : Env R D F) {id : Nat} {c : Code} (h : GoW P main R D Stop F n (G (b.at a (.code c :: .inBlock id :: k)) cs)) : GoW P main R D Stop F (n + 1) (G (b.at a (.code (.block id c) :: k)) cs) := gw_step E rfl (fun _ _ => stepG_block) h
theorem gw_loop (E : Env R D F) {c : Code} (h : GoW P main R D Stop F n (G (b.at a (.code c :: .inLoop c :: k)) cs)) : GoW P main R D Stop F (n + 1) (G (b.at a (.code (.loop c) :: k)) cs) := gw_step E rfl (fun _ _ => stepG_loop) h
theorem gw_inLoop (E : Env R D F) {c : Code} (h : GoW P main R D Stop F n (G (b.at a (.code c :: .inLoop c :: k)) cs)) : GoW P main R D Stop F (n + 1) (G (b.at a (.inLoop c :: k)) cs) := gw_step E rfl (fun _ _ => stepG_inLoop) h
theorem gw_exit (E : Env R D F) {id : Nat} {k' : List Item} (e : exitTo id k = some k') (h : GoW P main R D Stop F n (G (b.at a k') cs)) : GoW P main R D Stop F (n + 1) (G (b.at a (.code (.exit id) :: k)) cs) := gw_step E rfl (fun _ _ => stepG_exit e) h
theorem gw_region (E : Env R D F) {id : Nat} {ops : Array Oper} {l : List Nat} (e : List.range ops.size = l) (h : GoW P main R D Stop F n (G (b.at a (.inRegion ops l :: k)) cs)) : GoW P main R D Stop F (n + 1) (G (b.at a (.code (.region id ops false) :: k)) cs) := gw_step E rfl (fun _ _ => by rw [stepG_region, e]) h
theorem gw_region_1 (E : Env R D F) {id : Nat} {o0 : Oper} (h : GoW P main R D Stop F n (G (b.at a (.inRegion #[o0] [0] :: k)) cs)) : GoW P main R D Stop F (n + 1) (G (b.at a (.code (.region id #[o0] false) :: k)) cs) := gw_region E rfl h
theorem gw_region_2 (E : Env R D F) {id : Nat} {o0 o1 : Oper} (h : GoW P main R D Stop F n (G (b.at a (.inRegion #[o0, o1] [0, 1] :: k)) cs)) : GoW P main R D Stop F (n + 1) (G (b.at a (.code (.region id #[o0, o1] false) :: k)) cs) := gw_region E rfl h
theorem gw_region_3 (E : Env R D F) {id : Nat} {o0 o1 o2 : Oper} (h : GoW P main R D Stop F n (G (b.at a (.inRegion #[o0, o1, o2] [0, 1, 2] :: k)) cs)) : GoW P main R D Stop F (n + 1) (G (b.at a (.code (.region id #[o0, o1, o2] false) :: k)) cs) := gw_region E rfl h
theorem gw_region_4 (E : Env R D F) {id : Nat} {o0 o1 o2 o3 : Oper} (h : GoW P main R D Stop F n (G (b.at a (.inRegion #[o0, o1, o2, o3] [0, 1, 2, 3] :: k)) cs)) : GoW P main R D Stop F (n + 1) (G (b.at a (.code (.region id #[o0, o1, o2, o3] false) :: k)) cs) := gw_region E rfl h
theorem gw_region_5 (E : Env R D F) {id : Nat} {o0 o1 o2 o3 o4 : Oper} (h : GoW P main R D Stop F n (G (b.at a (.inRegion #[o0, o1, o2, o3, o4] [0, 1, 2, 3, 4] :: k)) cs)) : GoW P main R D Stop F (n + 1) (G (b.at a (.code (.region id #[o0, o1, o2, o3, o4] false) :: k)) cs) := gw_region E rfl h
theorem gw_region_6 (E : Env R D F) {id : Nat} {o0 o1 o2 o3 o4 o5 : Oper} (h : GoW P main R D Stop F n (G (b.at a (.inRegion #[o0, o1, o2, o3, o4, o5] [0, 1, 2, 3, 4, 5] :: k)) cs)) : GoW P main R D Stop F (n + 1) (G (b.at a (.code (.region id #[o0, o1, o2, o3, o4, o5] false) :: k)) cs) := gw_region E rfl h
theorem gw_region_7 (E : Env R D F) {id : Nat} {o0 o1 o2 o3 o4 o5 o6 : Oper} (h : GoW P main R D Stop F n (G (b.at a (.inRegion #[o0, o1, o2, o3, o4, o5, o6] [0, 1, 2, 3, 4, 5, 6] :: k)) cs)) : GoW P main R D Stop F (n + 1) (G (b.at a (.code (.region id #[o0, o1, o2, o3, o4, o5, o6] false) :: k)) cs) := gw_region E rfl h
theorem gw_region_8 (E : Env R D F) {id : Nat} {o0 o1 o2 o3 o4 o5 o6 o7 : Oper} (h : GoW P main R D Stop F n (G (b.at a (.inRegion #[o0, o1, o2, o3, o4, o5, o6, o7] [0, 1, 2, 3, 4, 5, 6, 7] :: k)) cs)) : GoW P main R D Stop F (n + 1) (G (b.at a (.code (.region id #[o0, o1, o2, o3, o4, o5, o6, o7] false) :: k)) cs) := gw_region E rfl h
theorem gw_region_9 (E : Env R D F) {id : Nat} {o0 o1 o2 o3 o4 o5 o6 o7 o8 : Oper} (h : GoW P main R D Stop F n (G (b.at a (.inRegion #[o0, o1, o2, o3, o4, o5, o6, o7, o8] [0, 1, 2, 3, 4, 5, 6, 7, 8] :: k)) cs)) : GoW P main R D Stop F (n + 1) (G (b.at a (.code (.region id #[o0, o1, o2, o3, o4, o5, o6, o7, o8] false) :: k)) cs) := gw_region E rfl h
theorem gw_region_10 (E : Env R D F) {id : Nat} {o0 o1 o2 o3 o4 o5 o6 o7 o8 o9 : Oper} (h : GoW P main R D Stop F n (G (b.at a (.inRegion #[o0, o1, o2, o3, o4, o5, o6, o7, o8, o9] [0, 1, 2, 3, 4, 5, 6, 7, 8, 9] :: k)) cs)) : GoW P main R D Stop F (n + 1) (G (b.at a (.code (.region id #[o0, o1, o2, o3, o4, o5, o6, o7, o8, o9] false) :: k)) cs) := gw_region E rfl h
theorem gw_region_11 (E : Env R D F) {id : Nat} {o0 o1 o2 o3 o4 o5 o6 o7 o8 o9 o10 : Oper} (h : GoW P main R D Stop F n (G (b.at a (.inRegion #[o0, o1, o2, o3, o4, o5, o6, o7, o8, o9, o10] [0, 1, 2, 3, 4, 5, 6, 7, 8, 9, 10] :: k)) cs)) : GoW P main R D Stop F (n + 1) (G (b.at a (.code (.region id #[o0, o1, o2, o3, o4, o5, o6, o7, o8, o9, o10] false) :: k)) cs) := gw_region E rfl h
theorem gw_region_12 (E : Env R D F) {id : Nat} {o0 o1 o2 o3 o4 o5 o6 o7 o8 o9 o10 o11 : Oper} (h : GoW P main R D Stop F n (G (b.at a (.inRegion #[o0, o1, o2, o3, o4, o5, o6, o7, o8, o9, o10, o11] [0, 1, 2, 3, 4, 5, 6, 7, 8, 9, 10, 11] :: k)) cs)) : GoW P main R D Stop F (n + 1) (G (b.at a (.code (.region id #[o0, o1, o2, o3, o4, o5, o6, o7, o8, o9, o10, o11] false) :: k)) cs) := gw_region E rfl h
theorem gw_region_end (E : Env R D F) {ops : Array Oper} (h : GoW P main R D Stop F n (G (b.at a k) cs)) : GoW P main R D Stop F (n + 1) (G (b.at a (.inRegion ops [] :: k)) cs) := gw_step E rfl (fun _ _ => stepG_region_end) h
theorem gw_cond (E : Env R D F) {x y : Code} {c : Operand} {t : Bool} (e : a.eval c = .bool t) (h : GoW P main R D Stop F n (G (b.at a (.code (if t then x else y) :: k)) cs)) : GoW P main R D Stop F (n + 1) (G (b.at a (.code (.cond c x y) :: k)) cs) := gw_step E rfl (fun _ _ => stepG_cond e) h
theorem gw_true (E : Env R D F) {x y : Code} {c : Operand} (e : a.eval c = .bool true) (h : GoW P main R D Stop F n (G (b.at a (.code x :: k)) cs)) : GoW P main R D Stop F (n + 1) (G (b.at a (.code (.cond c x y) :: k)) cs) := gw_cond E e h
theorem gw_false (E : Env R D F) {x y : Code} {c : Operand} (e : a.eval c = .bool false) (h : GoW P main R D Stop F n (G (b.at a (.code y :: k)) cs)) : GoW P main R D Stop F (n + 1) (G (b.at a (.code (.cond c x y) :: k)) cs) := gw_cond E e h
theorem gw_ret (E : Env R D F) (h : GoW P main R D Stop F n (G { b.at a (.code .ret :: k) with mode := .returning } cs)) : GoW P main R D Stop F (n + 1) (G (b.at a (.code .ret :: k)) cs) := gw_step E rfl (fun _ _ => stepG_ret') h
theorem gw_end (E : Env R D F) (h : GoW P main R D Stop F n (G { b.at a [] with mode := .returning } cs)) : GoW P main R D Stop F (n + 1) (G (b.at a []) cs) := gw_step E rfl (fun _ _ => stepG_end) h
section
variable {ops : Array Oper} {i : Nat} {rest : List Nat} {o : Oper}
theorem gw_unwanted (E : Env R D F) (ho : ops[i]? = some o) (hw : Region.wanted o (yielded ops a.tmps) = false) (h : GoW P main R D Stop F n (G (b.at (a.put o.dst undef) (.inRegion ops rest :: k)) cs)) : GoW P main R D Stop F (n + 1) (G (b.at a (.inRegion ops (i :: rest) :: k)) cs) := gw_step E rfl (fun _ _ => stepG_unwanted ho hw) h
theorem gw_val (E : Env R D F) {v : Value} (ho : ops[i]? = some o) (hw : Region.wanted o (yielded ops a.tmps) = true) (hk : b.kind ≠ .early) (hr : ∀ w, F w → (execOp a.eval o).run P w = .ok (.value v) w) (he : ∀ w, F w → (execOp a.eval o).events P w #[] = #[])
    (h : GoW P main R D Stop F n (G (b.at (a.put o.dst v) (.inRegion ops rest :: k)) cs)) : GoW P main R D Stop F (n + 1) (G (b.at a (.inRegion ops (i :: rest) :: k)) cs) :=
  gw_step E rfl (fun w hF => by rw [stepG_value ho hw hk (hr w hF)]; unfold listed; rw [he w hF, seen_none]) h
theorem gw_opk (E : Env R D F) (ho : ops[i]? = some o) (hw : Region.wanted o (yielded ops a.tmps) = true) (hk : b.kind ≠ .early)
    (h : ∀ w, F w → ∀ K : Act → World → Prop, (∀ a', (execOp a.eval o).events P w #[] = #[] → GoW P main R D Stop F n (G (b.at a' (.inRegion ops rest :: k)) cs) → K a' w) → uponK o a K ((execOp a.eval o).run P w)) : GoW P main R D Stop F (n + 1) (G (b.at a (.inRegion ops (i :: rest) :: k)) cs) :=
  fun _ hw' => Goes.step rfl fun w₁ h₁ => goes_oper_k ho hw hk fun K' hK' => h w₁ (E.cl _ _ hw' h₁) K' fun a' he hg => hK' a' w₁ ⟨by unfold listed; rw [he, seen_none]; exact E.nil _, hg w₁ (E.cl _ _ hw' h₁)⟩
theorem gw_conv (E : Env R D F) {src dst t : TypeId} {x : Operand} {ad : Addr} (ho : ops[i]? = some o) (hw : Region.wanted o (yielded ops a.tmps) = true) (hk : b.kind ≠ .early) (hop : o.op = .convert src dst x) (hx : a.eval x = .pointer (some ad))
    (hs : P.underlying src = some (.pointer t)) (hd : P.underlying dst = some .unsafePointer) (hsz : (P.info? t).map (fun i => decide (i.size = 0)) = some false) (hc : ∀ w, F w → ∃ v, w.cell? ad = some v)
    (h : GoW P main R D Stop F n (G (b.at (a.put o.dst (.pointer (some ad))) (.inRegion ops rest :: k)) cs)) : GoW P main R D Stop F (n + 1) (G (b.at a (.inRegion ops (i :: rest) :: k)) cs) :=
  gw_val E ho hw hk (fun w hF => by
    obtain ⟨v, hv⟩ := hc w hF
    unfold execOp
    simp only [hop, hx]
    rw [Sem.run_bind, run_convert_to_unsafe hs hd hsz hv]
    rfl) (fun w hF => by
    obtain ⟨v, hv⟩ := hc w hF
    unfold execOp
    simp only [hop, hx]
    have e := events_convert_to_unsafe (P := P) (w := w) hs hd hsz hv #[]
    simp [go_sem, e]) h
theorem gw_call (E : Env R D F) {f : FuncId} {fn : Func} {c : Code} {args : Array Operand} {ats : Array TypeId} (ho : ops[i]? = some o) (hw : Region.wanted o (yielded ops a.tmps) = true) (hk : b.kind ≠ .early) (hop : o.op = .call { callee := .value (.func f), args, argTypes := ats })
    (hf : P.funcs[f]? = some fn) (hname : (fn.name == "runtime.NumGoroutine") = false) (hb : fn.body = some c)
    (h : GoW P main R D Stop F n (G ((base f).at { tmps := args.map a.eval ++ Array.replicate (fn.ntmps - (args.map a.eval).size) undef, defers := [] } [.code c]) (b.at a (.inRegion ops (i :: rest) :: k) :: cs))) : GoW P main R D Stop F (n + 1) (G (b.at a (.inRegion ops (i :: rest) :: k)) cs) :=
  fun _ hw' => Goes.step rfl fun _ h₁ => goes_call ho hw hk hop hf hname hb ⟨E.nil _, h _ (E.cl _ _ hw' h₁)⟩
theorem gw_pure (E : Env R D F) (v : Value) {f : FuncId} {fn : Func} {azs : Array Operand} {ats : Array TypeId} (ho : ops[i]? = some o) (hw : Region.wanted o (yielded ops a.tmps) = true) (hk : b.kind ≠ .early) (hop : o.op = .call { callee := .value (.func f), args := azs, argTypes := ats })
    (hf : P.funcs[f]? = some fn) (hname : (fn.name == "runtime.NumGoroutine") = false) (hb : fn.body.isNone = true) (hn : Extern.findNext fn = none) (he : Extern.find fn = some (fun _ => pure v))
    (h : GoW P main R D Stop F n (G (b.at (a.put o.dst v) (.inRegion ops rest :: k)) cs)) : GoW P main R D Stop F (n + 1) (G (b.at a (.inRegion ops (i :: rest) :: k)) cs) :=
  gw_step E rfl (fun _ _ => stepG_entry_pure v ho hw hk hop hf hname hb hn he) h
theorem gw_defer (E : Env R D F) {f : FuncId} {azs : Array Operand} {ats : Array TypeId} (ho : ops[i]? = some o) (hw : Region.wanted o (yielded ops a.tmps) = true) (hk : b.kind ≠ .early) (hop : o.op = .defer { callee := .value (.func f), args := azs, argTypes := ats })
    (h : GoW P main R D Stop F n (G (b.at (Act.put ⟨a.tmps, dcall f (azs.map a.eval) :: a.defers⟩ o.dst undef) (.inRegion ops rest :: k)) cs)) : GoW P main R D Stop F (n + 1) (G (b.at a (.inRegion ops (i :: rest) :: k)) cs) :=
  gw_step E rfl (fun _ _ => stepG_defer ho hw hk hop) h
end
section
variable {ops : Array Oper} {i : Nat} {rest : List Nat} {b₀ : Frame} {a₀ : Act} {fn : Func} {todo : List Item}
theorem gw_leave1 (E : Env R D F) {t : Tmp} (hn : b.kind = .normal) (hd : a.defers = []) (hf : P.funcs[b.fn]? = some fn) (hr : fn.results = #[.tmp t])
    (h : GoW P main R D Stop F n (G (b₀.at (a₀.put ((ops[i]?).bind (·.dst)) (a.tmps.getD t undef)) (.inRegion ops rest :: k)) cs)) : GoW P main R D Stop F (n + 1) (G { b.at a todo with mode := .returning } (b₀.at a₀ (.inRegion ops (i :: rest) :: k) :: cs)) :=
  fun _ hw => Goes.step rfl fun _ h₁ => goes_leave1 hn hd hf hr ⟨E.nil _, h _ (E.cl _ _ hw h₁)⟩
theorem gw_leave0 (E : Env R D F) (hn : b.kind = .normal) (hd : a.defers = []) (hf : P.funcs[b.fn]? = some fn) (hr : fn.results = #[])
    (h : GoW P main R D Stop F n (G (b₀.at (a₀.put ((ops[i]?).bind (·.dst)) (.tuple #[])) (.inRegion ops rest :: k)) cs)) : GoW P main R D Stop F (n + 1) (G { b.at a todo with mode := .returning } (b₀.at a₀ (.inRegion ops (i :: rest) :: k) :: cs)) :=
  fun _ hw => Goes.step rfl fun _ h₁ => goes_leave0 hn hd hf hr ⟨E.nil _, h _ (E.cl _ _ hw h₁)⟩
end
end
end Go.Walk
namespace Go.Phase
open Go.Conc Go.Walk
open Go.ConcN (WgLive)
open Go.ConcR (WgAt stA smA Payload)
variable [Payload]
theorem envX (c : Cfg) (Low : Nat) {X : World → Prop} (hX : ∀ w w₁, X w → R0 c w w₁ → X w₁) : Env (R0 c) (D0 c Low) (fun w => X w ∧ WgLive c.ty c.Wg w) :=
  ⟨fun w w₁ h r => ⟨hX w w₁ h.1 r, r.live h.2⟩, fun w => ⟨Nat.le_refl _, fun _ _ _ => rfl, (fun e he => by simp at he), id, rfl, rfl⟩⟩
theorem r0_aside {c : Cfg} {w w' : World} (h : Aside c.Wg w w') (hl : WgLive c.ty c.Wg w') : R0 c w w' := ⟨Nat.le_of_eq h.size.symm, fun b _ hb _ _ => h.block b hb, fun _ => hl⟩
theorem d0_read (c : Cfg) (Low : Nat) (w : World) (a : Addr) (h : a.block = c.Wg) : D0 c Low w w #[⟨.mark (.read a), false, true⟩] := ⟨Nat.le_refl _, fun _ _ _ => rfl, (fun e he => by rw [Array.mem_singleton] at he; subst he; exact .inr (.inl ⟨a, .inl rfl, h⟩)), id, rfl, rfl⟩
theorem d0_write (c : Cfg) (Low : Nat) (w : World) (a : Addr) (h : a.block = c.Wg) : D0 c Low w w #[⟨.mark (.write a), false, true⟩] := ⟨Nat.le_refl _, fun _ _ _ => rfl, (fun e he => by rw [Array.mem_singleton] at he; subst he; exact .inr (.inl ⟨a, .inr rfl, h⟩)), id, rfl, rfl⟩
theorem live0 {ty : TypeId} {Wg : Nat} {w : World} (h : WgLive ty Wg w) : ∃ v, w.cell? ⟨Wg, 0, none⟩ = some v := let ⟨_, _, x⟩ := h; ⟨_, x.cellSt⟩
theorem live1 {ty : TypeId} {Wg : Nat} {w : World} (h : WgLive ty Wg w) : ∃ v, w.cell? ⟨Wg, 1, none⟩ = some v := let ⟨_, _, x⟩ := h; ⟨_, x.cellSm⟩
end Go.Phase
