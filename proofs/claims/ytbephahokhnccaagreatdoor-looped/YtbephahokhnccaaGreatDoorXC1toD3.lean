import Derived.Test.YtbephahokhnccaaGreatDoorXB7toB8
import Derived.Conc.WgGenN3
import Derived.Test.YtbephahokhnccaaGreatDoorProg
set_option linter.unusedSectionVars false
namespace Go.Walk
open Go.Conc
structure Env (R : World -> World -> Prop) (D : World -> World -> Array Event -> Prop) (F : World -> Prop) : Prop where
 cl : ∀ w w₁, F w -> R w w₁ -> F w₁
 nil : ∀ w, D w w #[]
def GoW (P : Program) (main : Bool) (R : World -> World -> Prop) (D : World -> World -> Array Event -> Prop) (Stop : Goroutine -> World -> Prop) (F : World -> Prop) (n : Nat) (g : Goroutine) : Prop := ∀ w, F w -> Goes P main R D Stop n g w
section
variable {P : Program} {main : Bool} {R : World -> World -> Prop} {D : World -> World -> Array Event -> Prop} {Stop : Goroutine -> World -> Prop} {F : World -> Prop} {n : Nat} (E : Env R D F)
 {b : Frame} {a : Act} {k : List Item} {cs : List Frame}
theorem gw_step (E : Env R D F) {g g' : Goroutine} (hr : g.status = .running) (h : ∀ w, F w -> stepG P main g w = .go g' w #[]) (hk : GoW P main R D Stop F n g') : GoW P main R D Stop F (n + 1) g :=
 fun w hw => Goes.step hr fun w₁ h₁ => by
  have hF := E.cl _ _ hw h₁
  rw [h w₁ hF]
  exact ⟨E.nil _, hk _ hF⟩
theorem gw_ev (E : Env R D F) {g g' : Goroutine} {es : Array Event} (hr : g.status = .running) (h : ∀ w, F w -> stepG P main g w = .go g' w es) (hD : ∀ w, F w -> D w w es) (hk : GoW P main R D Stop F n g') : GoW P main R D Stop F (n + 1) g :=
 fun w hw => Goes.step hr fun w₁ h₁ => by
  have hF := E.cl _ _ hw h₁
  rw [h w₁ hF]
  exact ⟨hD w₁ hF, hk _ hF⟩
theorem gw_stop (E : Env R D F) {g : Goroutine} (h : ∀ w, F w -> Stop g w) : GoW P main R D Stop F n g := fun _ hw => Goes.stop fun w₁ h₁ => h w₁ (E.cl _ _ hw h₁)
theorem gw_seq (E : Env R D F) {x y : Code} (h : GoW P main R D Stop F n (G (b.at a (.code x :: .code y :: k)) cs)) : GoW P main R D Stop F (n + 1) (G (b.at a (.code (.seq x y) :: k)) cs) := gw_step E rfl (fun _ _ => stepG_seq) h
theorem gw_skip (E : Env R D F) (h : GoW P main R D Stop F n (G (b.at a k) cs)) : GoW P main R D Stop F (n + 1) (G (b.at a (.code .skip :: k)) cs) := gw_step E rfl (fun _ _ => stepG_skip) h
theorem gw_inBlock (E : Env R D F) {id : Nat} (h : GoW P main R D Stop F n (G (b.at a k) cs)) : GoW P main R D Stop F (n + 1) (G (b.at a (.inBlock id :: k)) cs) := gw_step E rfl (fun _ _ => stepG_inBlock) h
theorem gw_block (E : Env R D F) {id : Nat} {c : Code} (h : GoW P main R D Stop F n (G (b.at a (.code c :: .inBlock id :: k)) cs)) : GoW P main R D Stop F (n + 1) (G (b.at a (.code (.block id c) :: k)) cs) := gw_step E rfl (fun _ _ => stepG_block) h
theorem gw_loop (E : Env R D F) {c : Code} (h : GoW P main R D Stop F n (G (b.at a (.code c :: .inLoop c :: k)) cs)) : GoW P main R D Stop F (n + 1) (G (b.at a (.code (.loop c) :: k)) cs) := gw_step E rfl (fun _ _ => stepG_loop) h
theorem gw_inLoop (E : Env R D F) {c : Code} (h : GoW P main R D Stop F n (G (b.at a (.code c :: .inLoop c :: k)) cs)) : GoW P main R D Stop F (n + 1) (G (b.at a (.inLoop c :: k)) cs) := gw_step E rfl (fun _ _ => stepG_inLoop) h
theorem gw_exit (E : Env R D F) {id : Nat} {k' : List Item} (e : exitTo id k = some k') (h : GoW P main R D Stop F n (G (b.at a k') cs)) : GoW P main R D Stop F (n + 1) (G (b.at a (.code (.exit id) :: k)) cs) := gw_step E rfl (fun _ _ => stepG_exit e) h
theorem gw_region (E : Env R D F) {id : Nat} {ops : Array Oper} {l : List Nat} (e : List.range ops.size = l) (h : GoW P main R D Stop F n (G (b.at a (.inRegion ops l :: k)) cs)) : GoW P main R D Stop F (n + 1) (G (b.at a (.code (.region id ops false) :: k)) cs) := gw_step E rfl (fun _ _ => by rw [stepG_region, e]) h
theorem gw_region_1 (E : Env R D F) {id : Nat} {o0 : Oper} (h : GoW P main R D Stop F n (G (b.at a (.inRegion #[o0] [0] :: k)) cs)) : GoW P main R D Stop F (n + 1) (G (b.at a (.code (.region id #[o0] false) :: k)) cs) := gw_region E rfl h
theorem gw_region_2 (E : Env R D F) {id : Nat} {o0 o1 : Oper} (h : GoW P main R D Stop F n (G (b.at a (.inRegion #[o0, o1] [0, 1] :: k)) cs)) : GoW P main R D Stop F (n + 1) (G (b.at a (.code (.region id #[o0, o1] false) :: k)) cs) := gw_region E rfl h
theorem gw_region_3 (E : Env R D F) {id : Nat} {o0 o1 o2 : Oper} (h : GoW P main R D Stop F n (G (b.at a (.inRegion #[o0, o1, o2] [0, 1, 2] :: k)) cs)) : GoW P main R D Stop F (n + 1) (G (b.at a (.code (.region id #[o0, o1, o2] false) :: k)) cs) := gw_region E rfl h
theorem gw_region_4 (E : Env R D F) {id : Nat} {o0 o1 o2 o3 : Oper} (h : GoW P main R D Stop F n (G (b.at a (.inRegion #[o0, o1, o2, o3] [0, 1, 2, 3] :: k)) cs)) : GoW P main R D Stop F (n + 1) (G (b.at a (.code (.region id #[o0, o1, o2, o3] false) :: k)) cs) := gw_region E rfl h
theorem gw_region_5 (E : Env R D F) {id : Nat} {o0 o1 o2 o3 o4 : Oper} (h : GoW P main R D Stop F n (G (b.at a (.inRegion #[o0, o1, o2, o3, o4] [0, 1, 2, 3, 4] :: k)) cs)) : GoW P main R D Stop F (n + 1) (G (b.at a (.code (.region id #[o0, o1, o2, o3, o4] false) :: k)) cs) := gw_region E rfl h
theorem gw_region_6 (E : Env R D F) {id : Nat} {o0 o1 o2 o3 o4 o5 : Oper} (h : GoW P main R D Stop F n (G (b.at a (.inRegion #[o0, o1, o2, o3, o4, o5] [0, 1, 2, 3, 4, 5] :: k)) cs)) : GoW P main R D Stop F (n + 1) (G (b.at a (.code (.region id #[o0, o1, o2, o3, o4, o5] false) :: k)) cs) := gw_region E rfl h
theorem gw_region_7 (E : Env R D F) {id : Nat} {o0 o1 o2 o3 o4 o5 o6 : Oper} (h : GoW P main R D Stop F n (G (b.at a (.inRegion #[o0, o1, o2, o3, o4, o5, o6] [0, 1, 2, 3, 4, 5, 6] :: k)) cs)) : GoW P main R D Stop F (n + 1) (G (b.at a (.code (.region id #[o0, o1, o2, o3, o4, o5, o6] false) :: k)) cs) := gw_region E rfl h
theorem gw_region_8 (E : Env R D F) {id : Nat} {o0 o1 o2 o3 o4 o5 o6 o7 : Oper} (h : GoW P main R D Stop F n (G (b.at a (.inRegion #[o0, o1, o2, o3, o4, o5, o6, o7] [0, 1, 2, 3, 4, 5, 6, 7] :: k)) cs)) : GoW P main R D Stop F (n + 1) (G (b.at a (.code (.region id #[o0, o1, o2, o3, o4, o5, o6, o7] false) :: k)) cs) := gw_region E rfl h
theorem gw_region_10 (E : Env R D F) {id : Nat} {o0 o1 o2 o3 o4 o5 o6 o7 o8 o9 : Oper} (h : GoW P main R D Stop F n (G (b.at a (.inRegion #[o0, o1, o2, o3, o4, o5, o6, o7, o8, o9] [0, 1, 2, 3, 4, 5, 6, 7, 8, 9] :: k)) cs)) : GoW P main R D Stop F (n + 1) (G (b.at a (.code (.region id #[o0, o1, o2, o3, o4, o5, o6, o7, o8, o9] false) :: k)) cs) := gw_region E rfl h
theorem gw_region_11 (E : Env R D F) {id : Nat} {o0 o1 o2 o3 o4 o5 o6 o7 o8 o9 o10 : Oper} (h : GoW P main R D Stop F n (G (b.at a (.inRegion #[o0, o1, o2, o3, o4, o5, o6, o7, o8, o9, o10] [0, 1, 2, 3, 4, 5, 6, 7, 8, 9, 10] :: k)) cs)) : GoW P main R D Stop F (n + 1) (G (b.at a (.code (.region id #[o0, o1, o2, o3, o4, o5, o6, o7, o8, o9, o10] false) :: k)) cs) := gw_region E rfl h
theorem gw_region_12 (E : Env R D F) {id : Nat} {o0 o1 o2 o3 o4 o5 o6 o7 o8 o9 o10 o11 : Oper} (h : GoW P main R D Stop F n (G (b.at a (.inRegion #[o0, o1, o2, o3, o4, o5, o6, o7, o8, o9, o10, o11] [0, 1, 2, 3, 4, 5, 6, 7, 8, 9, 10, 11] :: k)) cs)) : GoW P main R D Stop F (n + 1) (G (b.at a (.code (.region id #[o0, o1, o2, o3, o4, o5, o6, o7, o8, o9, o10, o11] false) :: k)) cs) := gw_region E rfl h
theorem gw_region_end (E : Env R D F) {ops : Array Oper} (h : GoW P main R D Stop F n (G (b.at a k) cs)) : GoW P main R D Stop F (n + 1) (G (b.at a (.inRegion ops [] :: k)) cs) := gw_step E rfl (fun _ _ => stepG_region_end) h
theorem gw_cond (E : Env R D F) {x y : Code} {c : Operand} {t : Bool} (e : a.eval c = .bool t) (h : GoW P main R D Stop F n (G (b.at a (.code (if t then x else y) :: k)) cs)) : GoW P main R D Stop F (n + 1) (G (b.at a (.code (.cond c x y) :: k)) cs) := gw_step E rfl (fun _ _ => stepG_cond e) h
theorem gw_true (E : Env R D F) {x y : Code} {c : Operand} (e : a.eval c = .bool true) (h : GoW P main R D Stop F n (G (b.at a (.code x :: k)) cs)) : GoW P main R D Stop F (n + 1) (G (b.at a (.code (.cond c x y) :: k)) cs) := gw_cond E e h
theorem gw_false (E : Env R D F) {x y : Code} {c : Operand} (e : a.eval c = .bool false) (h : GoW P main R D Stop F n (G (b.at a (.code y :: k)) cs)) : GoW P main R D Stop F (n + 1) (G (b.at a (.code (.cond c x y) :: k)) cs) := gw_cond E e h
theorem gw_ret (E : Env R D F) (h : GoW P main R D Stop F n (G { b.at a (.code .ret :: k) with mode := .returning } cs)) : GoW P main R D Stop F (n + 1) (G (b.at a (.code .ret :: k)) cs) := gw_step E rfl (fun _ _ => stepG_ret') h
theorem gw_end (E : Env R D F) (h : GoW P main R D Stop F n (G { b.at a [] with mode := .returning } cs)) : GoW P main R D Stop F (n + 1) (G (b.at a []) cs) := gw_step E rfl (fun _ _ => stepG_end) h
section
variable {ops : Array Oper} {i : Nat} {rest : List Nat} {o : Oper}
theorem gw_unwanted (E : Env R D F) (ho : ops[i]? = some o) (hw : Region.wanted o (yielded ops a.tmps) = false) (h : GoW P main R D Stop F n (G (b.at (a.put o.dst undef) (.inRegion ops rest :: k)) cs)) : GoW P main R D Stop F (n + 1) (G (b.at a (.inRegion ops (i :: rest) :: k)) cs) := gw_step E rfl (fun _ _ => stepG_unwanted ho hw) h
theorem gw_val (E : Env R D F) {v : Value} (ho : ops[i]? = some o) (hw : Region.wanted o (yielded ops a.tmps) = true) (hk : b.kind ≠ .early) (hr : ∀ w, F w -> (execOp a.eval o).run P w = .ok (.value v) w) (he : ∀ w, F w -> (execOp a.eval o).events P w #[] = #[])
  (h : GoW P main R D Stop F n (G (b.at (a.put o.dst v) (.inRegion ops rest :: k)) cs)) : GoW P main R D Stop F (n + 1) (G (b.at a (.inRegion ops (i :: rest) :: k)) cs) :=
 gw_step E rfl (fun w hF => by rw [stepG_value ho hw hk (hr w hF)]; unfold listed; rw [he w hF, seen_none]) h
theorem gw_opk (E : Env R D F) (ho : ops[i]? = some o) (hw : Region.wanted o (yielded ops a.tmps) = true) (hk : b.kind ≠ .early)
  (h : ∀ w, F w -> ∀ K : Act -> World -> Prop, (∀ a', (execOp a.eval o).events P w #[] = #[] -> GoW P main R D Stop F n (G (b.at a' (.inRegion ops rest :: k)) cs) -> K a' w) -> uponK o a K ((execOp a.eval o).run P w)) : GoW P main R D Stop F (n + 1) (G (b.at a (.inRegion ops (i :: rest) :: k)) cs) :=
 fun _ hw' => Goes.step rfl fun w₁ h₁ => goes_oper_k ho hw hk fun K' hK' => h w₁ (E.cl _ _ hw' h₁) K' fun a' he hg => hK' a' w₁ ⟨by unfold listed; rw [he, seen_none]; exact E.nil _, hg w₁ (E.cl _ _ hw' h₁)⟩
theorem gw_conv (E : Env R D F) {src dst t : TypeId} {x : Operand} {ad : Addr} (ho : ops[i]? = some o) (hw : Region.wanted o (yielded ops a.tmps) = true) (hk : b.kind ≠ .early) (hop : o.op = .convert src dst x) (hx : a.eval x = .pointer (some ad))
  (hs : P.underlying src = some (.pointer t)) (hd : P.underlying dst = some .unsafePointer) (hsz : (P.info? t).map (fun i => decide (i.size = 0)) = some false) (hc : ∀ w, F w -> ∃ v, w.cell? ad = some v)
  (h : GoW P main R D Stop F n (G (b.at (a.put o.dst (.pointer (some ad))) (.inRegion ops rest :: k)) cs)) : GoW P main R D Stop F (n + 1) (G (b.at a (.inRegion ops (i :: rest) :: k)) cs) :=
 gw_val E ho hw hk (fun w hF => by
  obtain ⟨v, hv⟩ := hc w hF
  unfold execOp
  simp only [hop, hx]
  rw [Sem.run_bind, run_convert_to_unsafe hs hd hsz hv]
  rfl) (fun w hF => by
  obtain ⟨v, hv⟩ := hc w hF
  unfold execOp
  simp only [hop, hx]
  have e := events_convert_to_unsafe (P := P) (w := w) hs hd hsz hv #[]
  simp [go_sem, e]) h
theorem gw_call (E : Env R D F) {f : FuncId} {fn : Func} {c : Code} {args : Array Operand} {ats : Array TypeId} (ho : ops[i]? = some o) (hw : Region.wanted o (yielded ops a.tmps) = true) (hk : b.kind ≠ .early) (hop : o.op = .call { callee := .value (.func f), args, argTypes := ats })
  (hf : P.funcs[f]? = some fn) (hname : (fn.name == "runtime.NumGoroutine") = false) (hb : fn.body = some c)
  (h : GoW P main R D Stop F n (G ((base f).at { tmps := args.map a.eval ++ Array.replicate (fn.ntmps - (args.map a.eval).size) undef, defers := [] } [.code c]) (b.at a (.inRegion ops (i :: rest) :: k) :: cs))) : GoW P main R D Stop F (n + 1) (G (b.at a (.inRegion ops (i :: rest) :: k)) cs) :=
 fun _ hw' => Goes.step rfl fun _ h₁ => goes_call ho hw hk hop hf hname hb ⟨E.nil _, h _ (E.cl _ _ hw' h₁)⟩
theorem gw_pure (E : Env R D F) (v : Value) {f : FuncId} {fn : Func} {azs : Array Operand} {ats : Array TypeId} (ho : ops[i]? = some o) (hw : Region.wanted o (yielded ops a.tmps) = true) (hk : b.kind ≠ .early) (hop : o.op = .call { callee := .value (.func f), args := azs, argTypes := ats })
  (hf : P.funcs[f]? = some fn) (hname : (fn.name == "runtime.NumGoroutine") = false) (hb : fn.body.isNone = true) (hn : Extern.findNext fn = none) (he : Extern.find fn = some (fun _ => pure v))
  (h : GoW P main R D Stop F n (G (b.at (a.put o.dst v) (.inRegion ops rest :: k)) cs)) : GoW P main R D Stop F (n + 1) (G (b.at a (.inRegion ops (i :: rest) :: k)) cs) :=
 gw_step E rfl (fun _ _ => stepG_entry_pure v ho hw hk hop hf hname hb hn he) h
theorem gw_defer (E : Env R D F) {f : FuncId} {azs : Array Operand} {ats : Array TypeId} (ho : ops[i]? = some o) (hw : Region.wanted o (yielded ops a.tmps) = true) (hk : b.kind ≠ .early) (hop : o.op = .defer { callee := .value (.func f), args := azs, argTypes := ats })
  (h : GoW P main R D Stop F n (G (b.at (Act.put ⟨a.tmps, dcall f (azs.map a.eval) :: a.defers⟩ o.dst undef) (.inRegion ops rest :: k)) cs)) : GoW P main R D Stop F (n + 1) (G (b.at a (.inRegion ops (i :: rest) :: k)) cs) :=
 gw_step E rfl (fun _ _ => stepG_defer ho hw hk hop) h
end
section
variable {ops : Array Oper} {i : Nat} {rest : List Nat} {b₀ : Frame} {a₀ : Act} {fn : Func} {todo : List Item}
theorem gw_leave1 (E : Env R D F) {t : Tmp} (hn : b.kind = .normal) (hd : a.defers = []) (hf : P.funcs[b.fn]? = some fn) (hr : fn.results = #[.tmp t])
  (h : GoW P main R D Stop F n (G (b₀.at (a₀.put ((ops[i]?).bind (·.dst)) (a.tmps.getD t undef)) (.inRegion ops rest :: k)) cs)) : GoW P main R D Stop F (n + 1) (G { b.at a todo with mode := .returning } (b₀.at a₀ (.inRegion ops (i :: rest) :: k) :: cs)) :=
 fun _ hw => Goes.step rfl fun _ h₁ => goes_leave1 hn hd hf hr ⟨E.nil _, h _ (E.cl _ _ hw h₁)⟩
theorem gw_leave0 (E : Env R D F) (hn : b.kind = .normal) (hd : a.defers = []) (hf : P.funcs[b.fn]? = some fn) (hr : fn.results = #[])
  (h : GoW P main R D Stop F n (G (b₀.at (a₀.put ((ops[i]?).bind (·.dst)) (.tuple #[])) (.inRegion ops rest :: k)) cs)) : GoW P main R D Stop F (n + 1) (G { b.at a todo with mode := .returning } (b₀.at a₀ (.inRegion ops (i :: rest) :: k) :: cs)) :=
 fun _ hw => Goes.step rfl fun _ h₁ => goes_leave0 hn hd hf hr ⟨E.nil _, h _ (E.cl _ _ hw h₁)⟩
end
end
end Go.Walk
namespace Go.Phase
open Go.Conc Go.Walk
open Go.ConcN (WgLive)
open Go.ConcR (WgAt stA smA Payload)
variable [Payload]
theorem envX (c : Cfg) (Low : Nat) {X : World -> Prop} (hX : ∀ w w₁, X w -> R0 c w w₁ -> X w₁) : Env (R0 c) (D0 c Low) (fun w => X w /\ WgLive c.ty c.Wg w) :=
 ⟨fun w w₁ h r => ⟨hX w w₁ h.1 r, r.live h.2⟩, fun w => ⟨Nat.le_refl _, fun _ _ _ => rfl, (fun e he => by simp at he), id, rfl, rfl⟩⟩
theorem r0_aside {c : Cfg} {w w' : World} (h : Aside c.Wg w w') (hl : WgLive c.ty c.Wg w') : R0 c w w' := ⟨Nat.le_of_eq h.size.symm, fun b _ hb _ _ => h.block b hb, fun _ => hl⟩
theorem d0_read (c : Cfg) (Low : Nat) (w : World) (a : Addr) (h : a.block = c.Wg) : D0 c Low w w #[⟨.mark (.read a), false, true⟩] := ⟨Nat.le_refl _, fun _ _ _ => rfl, (fun e he => by rw [Array.mem_singleton] at he; subst he; exact .inr (.inl ⟨a, .inl rfl, h⟩)), id, rfl, rfl⟩
theorem d0_write (c : Cfg) (Low : Nat) (w : World) (a : Addr) (h : a.block = c.Wg) : D0 c Low w w #[⟨.mark (.write a), false, true⟩] := ⟨Nat.le_refl _, fun _ _ _ => rfl, (fun e he => by rw [Array.mem_singleton] at he; subst he; exact .inr (.inl ⟨a, .inr rfl, h⟩)), id, rfl, rfl⟩
theorem live0 {ty : TypeId} {Wg : Nat} {w : World} (h : WgLive ty Wg w) : ∃ v, w.cell? ⟨Wg, 0, none⟩ = some v := let ⟨_, _, x⟩ := h; ⟨_, x.cellSt⟩
theorem live1 {ty : TypeId} {Wg : Nat} {w : World} (h : WgLive ty Wg w) : ∃ v, w.cell? ⟨Wg, 1, none⟩ = some v := let ⟨_, _, x⟩ := h; ⟨_, x.cellSm⟩
end Go.Phase
namespace Go.Proofs
abbrev Tryz.link : Go.Conc.Lib.WgLink := { add := 143, done := 146, wait := 100, relMerge := 181, disable := 148, enable := 150, inBubble := 156, associate := 182, fatal := 183, uOr := 184, uAdd := 185, raceRead := 186, uLoad := 149, uStore := 187, disassociate := 154, semrelease := 188, acquire := 151, isAssociated := 152, uCas := 153, raceWrite := 155, semacquire := 157, orU64 := 225, addU64 := 226, loadU64 := 189, storeU64 := 227, casU64 := 190, tWgP := 234, tUP := 238, tAssoc := 268, tWg := 189, tAU := 186, tU64 := 39, tUint := 93, tU32 := 187, tPU32 := 242, tPAU := 274, tPU64 := 276, tNoCopy := 182, tANoCopy := 183, tAlign64 := 184 }
theorem Tryz.wgLib : Go.Conc.Lib.WgLib Tryz.prog Tryz.link :=
 ⟨Tryz.func143, Tryz.func146, Tryz.func100, Tryz.func181, Tryz.func148, Tryz.func150, Tryz.func156, Tryz.func182, Tryz.func183, Tryz.func184, Tryz.func185, Tryz.func186, Tryz.func149, Tryz.func187, Tryz.func154, Tryz.func188, Tryz.func151, Tryz.func152, Tryz.func153, Tryz.func155, Tryz.func157, Tryz.func225, Tryz.func226, Tryz.func189, Tryz.func227, Tryz.func190, Tryz.underlying234, Tryz.runUnderlying234, Tryz.sizeOf234, Tryz.isAgg234, Tryz.zeroValue234, Tryz.underlying238, Tryz.runUnderlying238, Tryz.sizeOf238, Tryz.isAgg238, Tryz.zeroValue238, Tryz.underlying268, Tryz.runUnderlying268, Tryz.sizeOf268, Tryz.isAgg268, Tryz.zeroValue268, Tryz.underlying189, Tryz.runUnderlying189, Tryz.sizeOf189, Tryz.isAgg189, Tryz.zeroValue189, Tryz.underlying186, Tryz.runUnderlying186, Tryz.sizeOf186, Tryz.isAgg186, Tryz.zeroValue186, Tryz.underlying39, Tryz.runUnderlying39, Tryz.sizeOf39, Tryz.isAgg39, Tryz.zeroValue39, Tryz.underlying93, Tryz.runUnderlying93, Tryz.sizeOf93, Tryz.isAgg93, Tryz.zeroValue93, Tryz.underlying187, Tryz.runUnderlying187, Tryz.sizeOf187, Tryz.isAgg187, Tryz.zeroValue187, Tryz.underlying242, Tryz.runUnderlying242, Tryz.sizeOf242, Tryz.isAgg242, Tryz.zeroValue242, Tryz.underlying274, Tryz.runUnderlying274, Tryz.sizeOf274, Tryz.isAgg274, Tryz.zeroValue274, Tryz.underlying276, Tryz.runUnderlying276, Tryz.sizeOf276, Tryz.isAgg276, Tryz.zeroValue276, Tryz.underlying0, Tryz.runUnderlying0, Tryz.sizeOf0, Tryz.isAgg0, Tryz.zeroValue0, Tryz.underlying3, Tryz.runUnderlying3, Tryz.sizeOf3, Tryz.isAgg3, Tryz.zeroValue3, Tryz.underlying4, Tryz.runUnderlying4, Tryz.sizeOf4, Tryz.isAgg4, Tryz.zeroValue4, Tryz.underlying9, Tryz.runUnderlying9, Tryz.sizeOf9, Tryz.isAgg9, Tryz.zeroValue9, Tryz.underlying20, Tryz.runUnderlying20, Tryz.sizeOf20, Tryz.isAgg20, Tryz.zeroValue20, Tryz.underlying21, Tryz.runUnderlying21, Tryz.sizeOf21, Tryz.isAgg21, Tryz.zeroValue21, by kernel_rfl, by kernel_rfl⟩
end Go.Proofs
namespace Go.Phase
open Go.Conc Go.Walk Go.Lift
open Go.ConcN (WgLive)
open Go.ConcR (Payload)
def DNil (w w' : World) (es : Array Event) : Prop := w' = w /\ es = #[]
theorem envA [Payload] (c : Cfg) {X : World -> Prop} (hX : ∀ w w₁, X w -> R0 c w w₁ -> X w₁) : Env AtRel DNil (fun w => X w /\ WgLive c.ty c.Wg w) :=
 ⟨fun w w₁ h r => by obtain ⟨d, rfl⟩ := r; exact ⟨hX _ _ h.1 (R0.at w d), h.2⟩, fun w => ⟨rfl, rfl⟩⟩
end Go.Phase
set_option maxRecDepth 100000
set_option maxHeartbeats 8000000
namespace Go.Walk
open Go.Conc Go.Phase
section
variable {P : Program} {main : Bool} {R : World -> World -> Prop} {D : World -> World -> Array Event -> Prop} {Stop : Goroutine -> World -> Prop} {F : World -> Prop}
theorem goes_up {g : Goroutine} {w : World} {n m : Nat} (h : Goes P main R D Stop n g w) (hm : n <= m) : Goes P main R D Stop m g w := by
 induction hm with
 | refl => exact h
 | step _ ih => exact Goes.more ih
theorem goes_along {gs : Goroutine} (hR : ∀ w, R w w) (hSt : ∀ g w, Stop g w -> ∃ g' w' es, stepG P main g w = .go g' w' es /\ es ≠ #[]) :
  ∀ (n N : Nat) (g : Goroutine) (w : World), Goes P main R DNil (fun g' _ => g' = gs) n g w -> Goes P main R D Stop N g w -> ∃ N', Goes P main R D Stop N' gs w
 | 0, N, g, w, hp, h => by
  have : g = gs := hp w (hR w)
  subst this
  exact ⟨N, h⟩
 | n + 1, N, g, w, hp, h => by
  rcases hp with hp | ⟨_, hp⟩
  ·have : g = gs := hp w (hR w)
   subst this
   exact ⟨N, h⟩
  ·replace hp := hp w (hR w)
   generalize hst : stepG P main g w = st at hp
   cases st with
   | go g' w' es =>
    simp only [goes_go] at hp
    obtain ⟨⟨rfl, rfl⟩, hp⟩ := hp
    have no : ¬ Stop g w' := fun hs => by
     obtain ⟨_, _, es, e, hne⟩ := hSt _ _ hs
     rw [hst] at e
     cases e
     exact hne rfl
    cases N with
    | zero => exact absurd (h w' (hR w')) no
    | succ N =>
     rcases h with h | ⟨_, h⟩
     ·exact absurd (h w' (hR w')) no
     ·have h := h w' (hR w')
      rw [hst] at h
      simp only [goes_go] at h
      exact goes_along hR hSt n N g' w' hp h.2
   | _ => exact hp.elim
theorem goes_path {gs : Goroutine} (hcl : ∀ w w₁, F w -> R w w₁ -> F w₁) (hD : ∀ w, D w w #[]) {m : Nat} (hs : ∀ w, F w -> Goes P main R D Stop m gs w) (hRt : ∀ a b d, R a b -> R b d -> R a d) (hR : ∀ w, R w w) :
  ∀ (n : Nat) (g : Goroutine) (w : World), F w -> Goes P main R DNil (fun g' _ => g' = gs) n g w -> Goes P main R D Stop (n + m) g w
 | 0, g, w, hF, hp => by
  have : g = gs := hp w (hR w)
  subst this
  rw [Nat.zero_add]
  exact hs w hF
 | n + 1, g, w, hF, hp => by
  rcases hp with hp | ⟨hr, hp⟩
  ·have : g = gs := hp w (hR w)
   subst this
   exact goes_up (hs w hF) (by omega)
  ·rw [show n + 1 + m = (n + m) + 1 by omega]
   refine Goes.step hr fun w₁ h₁ => ?_
   have hp := hp w₁ h₁
   generalize stepG P main g w₁ = st at hp
   cases st with
   | go g' w' es =>
    simp only [goes_go] at hp ⊢
    obtain ⟨⟨rfl, rfl⟩, hp⟩ := hp
    exact ⟨hD _, goes_path hcl hD hs hRt hR n g' w' (hcl _ _ hF h₁) hp⟩
   | _ => exact hp.elim
end
end Go.Walk
namespace Go.Phase
open Go.Conc Go.Walk Go.RowKit Go.Conc.Lib Go.ConcR.Gen Go.ConcN.Gen Go.Lift
open Go.ConcN (WgLive Has RW DWs AtR0 EvW)
open Go.ConcR (KK WgAt stA smA rd wr mk Payload)
variable [Payload] {L : WgLink}
theorem addNeg_path {P : Program} (H : WgLib P L) {Wg : Nat} {F : World -> Prop} (hLive : ∀ w, F w -> WgLive L.tWg Wg w) {b₀ : Frame} {a₀ : Act} {ops₀ : Array Oper} {i₀ : Nat} {rest₀ : List Nat} {k₀ : List Item} {cs : List Frame} :
  ∃ gs g1 gd gdd, (∀ R : World -> World -> Prop, (∀ w w₁, F w -> R w w₁ -> F w₁) -> GoW P false R DNil (fun g _ => g = gs) F 60 (G ((base L.add).at ⟨#[.pointer (some ⟨Wg, 0, none⟩), .int .i64 (-1)] ++ Array.replicate 115 undef, []⟩ [.code (body_add L)]) (b₀.at a₀ (.inRegion ops₀ (i₀ :: rest₀) :: k₀) :: cs))) /\
   (gs.status = .running /\ ∀ w, F w -> stepG P false gs w = .go g1 w #[mk (.releaseMerge (stA Wg))]) /\
   (∀ R : World -> World -> Prop, (∀ w w₁, F w -> R w w₁ -> F w₁) -> GoW P false R DNil (fun g _ => g = gd) F 60 g1) /\ (∀ w, F w -> stepG P false gd w = .go gdd w #[mk .disable]) := by
 lib_facts
 simp only [body_add, addFn, Option.getD_some]
 walk_nrm
 apply Exists.intro; apply Exists.intro; apply Exists.intro; apply Exists.intro
 refine ⟨fun R hcl => ?_, ⟨?_, fun w hF => ?_⟩, fun R hcl => ?_, fun w hF => ?_⟩
 ·have E : Env R DNil F := ⟨hcl, fun w => ⟨rfl, rfl⟩⟩
  repeat (first
   | refine gw_seq E ?_
   | refine gw_region_end E ?_
   | refine gw_region_1 E ?_
   | refine gw_region_2 E ?_
   | refine gw_region_3 E ?_
   | refine gw_true E rfl ?_
   | (refine gw_conv E rfl rfl (by k_ne) rfl rfl H.underlying_tWgP H.underlying_tUP H.room_tWg (fun w hF => live0 (hLive w hF)) ?_; walk_nrm)
   | (refine gw_opk E rfl rfl (by k_ne) (fun w hF K hK => ?_); go_simp; refine hK _ (by simp [go_sem, *]) ?_; clear hK K hF w; try w_num))
  exact gw_stop E (fun w hF => rfl)
 ·rfl
 ·exact stepG_markAt .releaseMerge (by simp) rfl rfl (by k_ne) rfl H.f_relMerge (x_relMerge_n L) (x_relMerge_b L) (x_relMerge_x L) (x_relMerge_f L) (ad := ⟨Wg, 0, none⟩) (by simp [Act.eval])
 ·have E : Env R DNil F := ⟨hcl, fun w => ⟨rfl, rfl⟩⟩
  walk_nrm
  repeat (first
   | refine gw_seq E ?_
   | refine gw_region_end E ?_
   | refine gw_region_1 E ?_
   | refine gw_region_2 E ?_
   | refine gw_region_3 E ?_
   | refine gw_true E rfl ?_
   | (refine gw_conv E rfl rfl (by k_ne) rfl rfl H.underlying_tWgP H.underlying_tUP H.room_tWg (fun w hF => live0 (hLive w hF)) ?_; walk_nrm)
   | (refine gw_opk E rfl rfl (by k_ne) (fun w hF K hK => ?_); go_simp; refine hK _ (by simp [go_sem, *]) ?_; clear hK K hF w; try w_num))
  exact gw_stop E (fun w hF => rfl)
 ·exact stepG_mark0 .disable (by simp) rfl rfl (by k_ne) rfl H.f_disable (x_disable_n L) (x_disable_b L) (x_disable_x L) (x_disable_f L)
theorem addNeg_atR0 {P : Program} (H : WgLib P L) {Wg C n k : Nat} {val : Value} {b₀ : Frame} {a₀ : Act} {ops₀ : Array Oper} {i₀ : Nat} {rest₀ : List Nat} {k₀ : List Item} {cs : List Frame} {qt : Nat}
  (hT : QuitsD P qt 0 (G (b₀.at (a₀.put ((ops₀[i₀]?).bind (·.dst)) (.tuple #[])) (.inRegion ops₀ rest₀ :: k₀)) cs)) :
  ∃ gs, (∀ R : World -> World -> Prop, (∀ w w₁, (WgLive L.tWg Wg w /\ Has C (k - 1) val w) -> R w w₁ -> (WgLive L.tWg Wg w₁ /\ Has C (k - 1) val w₁)) -> GoW P false R DNil (fun g _ => g = gs) (fun w => WgLive L.tWg Wg w /\ Has C (k - 1) val w) 60 (G ((base L.add).at ⟨#[.pointer (some ⟨Wg, 0, none⟩), .int .i64 (-1)] ++ Array.replicate 115 undef, []⟩ [.code (body_add L)]) (b₀.at a₀ (.inRegion ops₀ (i₀ :: rest₀) :: k₀) :: cs))) /\
   ∀ w, (WgLive L.tWg Wg w /\ Has C (k - 1) val w) -> AtR0 P L.tWg Wg C n 0 k val gs w := by
 obtain ⟨gs, g1, gd, gdd, hp, ⟨hrun, hgs⟩, hp1, hgd⟩ := addNeg_path H (Wg := Wg) (F := fun w => WgLive L.tWg Wg w /\ Has C (k - 1) val w) (fun w h => h.1) (b₀ := b₀) (a₀ := a₀) (ops₀ := ops₀) (i₀ := i₀) (rest₀ := rest₀) (k₀ := k₀) (cs := cs)
 refine ⟨gs, hp, fun w hF => ?_⟩
 have hA : Goes P false (RW L.tWg Wg C n 0 (k - 1)) (DWs Wg (fun _ _ => False) (fun _ _ => False) C n k) (AtR0 P L.tWg Wg C n 0 k val) 20 (G ((base L.add).at ⟨#[.pointer (some ⟨Wg, 0, none⟩), .int .i64 (-1)] ++ Array.replicate 115 undef, []⟩ [.code (body_add L)]) (b₀.at a₀ (.inRegion ops₀ (i₀ :: rest₀) :: k₀) :: cs)) w := by
  walk_nrm
  exact addNegN H hT w hF
 have hcl : ∀ w w₁, (WgLive L.tWg Wg w /\ Has C (k - 1) val w) -> RW L.tWg Wg C n 0 (k - 1) w w₁ -> (WgLive L.tWg Wg w₁ /\ Has C (k - 1) val w₁) := fun w w₁ h r => ⟨r.live h.1, r.cell.trans h.2⟩
 have hrefl : ∀ w, RW L.tWg Wg C n 0 (k - 1) w w := fun w => ⟨fun _ _ _ _ => rfl, id, id, rfl⟩
 have hSt : ∀ g w, AtR0 P L.tWg Wg C n 0 k val g w -> ∃ g' w' es, stepG P false g w = .go g' w' es /\ es ≠ #[] := fun g w h => by
  obtain ⟨_, _, g', e, _⟩ := h
  exact ⟨_, _, _, e, by simp⟩
 obtain ⟨N, hN⟩ := goes_along hrefl hSt _ _ _ w (hp _ hcl w hF) hA
 have key : ∀ N', ¬ Goes P false (RW L.tWg Wg C n 0 (k - 1)) (DWs Wg (fun _ _ => False) (fun _ _ => False) C n k) (AtR0 P L.tWg Wg C n 0 k val) N' g1 w := fun N' h => by
  obtain ⟨N2, h2⟩ := goes_along hrefl hSt _ _ _ w (hp1 _ hcl w hF) h
  have no : ¬ AtR0 P L.tWg Wg C n 0 k val gd w := fun hs => by
   obtain ⟨_, _, g', e, _⟩ := hs
   rw [hgd w hF] at e
   simp [mk] at e
  cases N2 with
  | zero => exact no (h2 w (hrefl w))
  | succ N2 =>
   rcases h2 with h2 | ⟨_, h2⟩
   ·exact no (h2 w (hrefl w))
   ·have h2 := h2 w (hrefl w)
    rw [hgd w hF] at h2
    simp only [goes_go] at h2
    exact (h2.1.2 (mk .disable) (by simp)).2.1 rfl
 cases N with
 | zero => exact hN w (hrefl w)
 | succ N =>
  rcases hN with hN | ⟨_, hN⟩
  ·exact hN w (hrefl w)
  ·have hN := hN w (hrefl w)
   rw [hgs w hF] at hN
   simp only [goes_go] at hN
   exact absurd hN.2 (key N)
end Go.Phase
namespace Go.Walk
open Go.Conc Go.Phase
section
variable {P : Program} {main : Bool} {R : World -> World -> Prop} {D : World -> World -> Array Event -> Prop} {Stop : Goroutine -> World -> Prop} {F : World -> Prop} {n : Nat} (E : Env R D F)
 {b : Frame} {a : Act} {k : List Item} {cs : List Frame} {ops : Array Oper} {i : Nat} {rest : List Nat} {o : Oper}
def dclo (f : FuncId) (caps : Array Value) : Deferred := { target := .fn (.func f) caps, args := #[] }
theorem stepG_defer_clo {x : Operand} {f : FuncId} {caps : Array Value} {w : World} (ho : ops[i]? = some o) (hw : Region.wanted o (yielded ops a.tmps) = true) (hk : b.kind ≠ .early)
  (hop : o.op = .defer { callee := .value x, args := #[], argTypes := #[] }) (hx : a.eval x = .func (.func f) #[] caps) :
  stepG P main (G (b.at a (.inRegion ops (i :: rest) :: k)) cs) w = .go (G (b.at (Act.put ⟨a.tmps, dclo f caps :: a.defers⟩ o.dst undef) (.inRegion ops rest :: k)) cs) w #[] := by
 have hr : (execOp a.eval o).run P w = .ok (.defer (dclo f caps)) w := by
  unfold execOp
  simp [hop, resolve, Deferred.ofValue, hx, dclo]
 have he : (execOp a.eval o).events P w #[] = #[] := by
  unfold execOp
  simp [hop, resolve, Deferred.ofValue, hx]
 have hfin : (b.at ⟨a.tmps, dclo f caps :: a.defers⟩ (.inRegion ops (i :: rest) :: k)).finish undef = b.at (Act.put ⟨a.tmps, dclo f caps :: a.defers⟩ o.dst undef) (.inRegion ops rest :: k) := by rw [Frame.finish_at, ho]; rfl
 have hk' : (b.kind == CallKind.early) = false := by simpa using hk
 rw [stepG_oper ho hw, <- hfin]
 simp [stepG.apply, hr, he, G, Frame.at, hk', GStep.after, seen_none]
theorem stepG_unwind_clo {todo : List Item} {ds : List Deferred} {f : FuncId} {fn : Func} {caps : Array Value} {c : Code} {w : World} (hd : a.defers = dclo f caps :: ds) (hf : P.funcs[f]? = some fn) (hname : (fn.name == "runtime.NumGoroutine") = false) (hb : fn.body = some c) :
  stepG P main (G { b.at a todo with mode := .returning } cs) w =
   .go (G ((baseD f).at { tmps := caps ++ Array.replicate (fn.ntmps - caps.size) undef, defers := [] } [.code c]) ({ b.at ⟨a.tmps, ds⟩ todo with mode := .returning } :: cs)) w #[] := by
 have h1 : ¬ fn.name = "runtime.NumGoroutine" := by simpa using hname
 rw [<- enter_atD caps hf hb]
 simp [G, stepG, unwind, callDeferred, Frame.at, hd, dclo, invoke, callFunc, hf, h1, hb, GStep.after, seen_none]
theorem stepG_call_clo {x : Operand} {f : FuncId} {fn : Func} {caps : Array Value} {c : Code} {w : World} (ho : ops[i]? = some o) (hw : Region.wanted o (yielded ops a.tmps) = true) (hk : b.kind ≠ .early)
  (hop : o.op = .call { callee := .value x, args := #[], argTypes := #[] }) (hx : a.eval x = .func (.func f) #[] caps) (hf : P.funcs[f]? = some fn) (hname : (fn.name == "runtime.NumGoroutine") = false) (hb : fn.body = some c) :
  stepG P main (G (b.at a (.inRegion ops (i :: rest) :: k)) cs) w = .go (G ((base f).at { tmps := caps ++ Array.replicate (fn.ntmps - caps.size) undef, defers := [] } [.code c]) (b.at a (.inRegion ops (i :: rest) :: k) :: cs)) w #[] := by
 have h1 : ¬ fn.name = "runtime.NumGoroutine" := by simpa using hname
 have hr : (execOp a.eval o).run P w = .ok (.enter f caps) w := by
  unfold execOp
  simp [hop, resolve, Deferred.ofValue, hx, invoke, callFunc, hf, h1, hb]
 have he : (execOp a.eval o).events P w #[] = #[] := by
  unfold execOp
  simp [hop, resolve, Deferred.ofValue, hx, invoke, callFunc, hf, h1, hb]
 rw [stepG_enter ho hw hk hr, enter_at caps hf hb]
 unfold listed
 rw [he, seen_none]
theorem stepG_recover_nil {fr : Frame} {w : World} (ho : ops[i]? = some o) (hw : Region.wanted o (yielded ops a.tmps) = true) (hk : b.kind = .deferred)
  (hop : o.op = .call { callee := .builtin .recover, args := #[], argTypes := #[] }) (hm : fr.mode = .returning) :
  stepG P main (G (b.at a (.inRegion ops (i :: rest) :: k)) (fr :: cs)) w = .go (G (b.at (a.put o.dst .nilIface) (.inRegion ops rest :: k)) (fr :: cs)) w #[] := by
 have hr : (execOp a.eval o).run P w = .ok .recover w := by
  unfold execOp
  simp [hop, resolve, go_sem]
 have he : (execOp a.eval o).events P w #[] = #[] := by
  unfold execOp
  simp [hop, resolve, go_sem]
 have hfin : (b.at a (.inRegion ops (i :: rest) :: k)).finish .nilIface = b.at (a.put o.dst .nilIface) (.inRegion ops rest :: k) := by rw [Frame.finish_at, ho]; rfl
 rw [stepG_oper ho hw, <- hfin]
 simp [stepG.apply, hr, he, G, Frame.at, hk, tryRecover, hm, GStep.after, seen_none]
theorem gw_defer_clo (E : Env R D F) {x : Operand} {f : FuncId} {caps : Array Value} (ho : ops[i]? = some o) (hw : Region.wanted o (yielded ops a.tmps) = true) (hk : b.kind ≠ .early)
  (hop : o.op = .defer { callee := .value x, args := #[], argTypes := #[] }) (hx : a.eval x = .func (.func f) #[] caps)
  (h : GoW P main R D Stop F n (G (b.at (Act.put ⟨a.tmps, dclo f caps :: a.defers⟩ o.dst undef) (.inRegion ops rest :: k)) cs)) : GoW P main R D Stop F (n + 1) (G (b.at a (.inRegion ops (i :: rest) :: k)) cs) := gw_step E rfl (fun _ _ => stepG_defer_clo ho hw hk hop hx) h
theorem gw_unwind_clo (E : Env R D F) {todo : List Item} {ds : List Deferred} {f : FuncId} {fn : Func} {caps : Array Value} {c : Code} (hd : a.defers = dclo f caps :: ds) (hf : P.funcs[f]? = some fn) (hname : (fn.name == "runtime.NumGoroutine") = false) (hb : fn.body = some c)
  (h : GoW P main R D Stop F n (G ((baseD f).at { tmps := caps ++ Array.replicate (fn.ntmps - caps.size) undef, defers := [] } [.code c]) ({ b.at ⟨a.tmps, ds⟩ todo with mode := .returning } :: cs))) :
  GoW P main R D Stop F (n + 1) (G { b.at a todo with mode := .returning } cs) := gw_step E rfl (fun _ _ => stepG_unwind_clo hd hf hname hb) h
theorem gw_call_clo (E : Env R D F) {x : Operand} {f : FuncId} {fn : Func} {caps : Array Value} {c : Code} (ho : ops[i]? = some o) (hw : Region.wanted o (yielded ops a.tmps) = true) (hk : b.kind ≠ .early)
  (hop : o.op = .call { callee := .value x, args := #[], argTypes := #[] }) (hx : a.eval x = .func (.func f) #[] caps) (hf : P.funcs[f]? = some fn) (hname : (fn.name == "runtime.NumGoroutine") = false) (hb : fn.body = some c)
  (h : GoW P main R D Stop F n (G ((base f).at { tmps := caps ++ Array.replicate (fn.ntmps - caps.size) undef, defers := [] } [.code c]) (b.at a (.inRegion ops (i :: rest) :: k) :: cs))) : GoW P main R D Stop F (n + 1) (G (b.at a (.inRegion ops (i :: rest) :: k)) cs) := gw_step E rfl (fun _ _ => stepG_call_clo ho hw hk hop hx hf hname hb) h
theorem gw_recover (E : Env R D F) {fr : Frame} (ho : ops[i]? = some o) (hw : Region.wanted o (yielded ops a.tmps) = true) (hk : b.kind = .deferred)
  (hop : o.op = .call { callee := .builtin .recover, args := #[], argTypes := #[] }) (hm : fr.mode = .returning) (h : GoW P main R D Stop F n (G (b.at (a.put o.dst .nilIface) (.inRegion ops rest :: k)) (fr :: cs))) :
  GoW P main R D Stop F (n + 1) (G (b.at a (.inRegion ops (i :: rest) :: k)) (fr :: cs)) := gw_step E rfl (fun _ _ => stepG_recover_nil ho hw hk hop hm) h
theorem gw_reads (E : Env R D F) {v : Value} (ho : ops[i]? = some o) (hw : Region.wanted o (yielded ops a.tmps) = true) (hk : b.kind ≠ .early) (hr : ∀ w, F w -> (execOp a.eval o).run P w = .ok (.value v) w) (hD : ∀ w, F w -> D w w (listed P b.fn a o w))
  (h : GoW P main R D Stop F n (G (b.at (a.put o.dst v) (.inRegion ops rest :: k)) cs)) : GoW P main R D Stop F (n + 1) (G (b.at a (.inRegion ops (i :: rest) :: k)) cs) :=
 fun _ hw' => Goes.step rfl fun w₁ h₁ => by
  have hF := E.cl _ _ hw' h₁
  rw [stepG_value ho hw hk (hr w₁ hF)]
  exact ⟨hD w₁ hF, h _ hF⟩
theorem gw_up (_ : Env R D F) {g : Goroutine} {m : Nat} (h : GoW P main R D Stop F n g) (hm : n <= m) : GoW P main R D Stop F m g := fun w hw => goes_up (h w hw) hm
end
theorem run_load1 {P : Program} {o : Oper} {ev : Operand -> Value} {t : TypeId} {x : Operand} {ad : Addr} {v : Value} {w : World} (hop : o.op = .load t x) (hx : ev x = .pointer (some ad)) (hz : ∀ w, Sem.run P (Go.sizeOf t) w = .ok 1 w) (ha : ∀ w, Sem.run P (isAgg t) w = .ok false w) (hc : w.cell? ad = some v) :
  (execOp ev o).run P w = .ok (.value v) w /\ (execOp ev o).events P w #[] = #[⟨.cell ad, false, false⟩] := by
 unfold execOp
 simp only [hop, hx]
 constructor
 ·simp [go_sem, hz, ha, hc]
 ·simp [go_sem, hz, ha, hc]
end Go.Walk
