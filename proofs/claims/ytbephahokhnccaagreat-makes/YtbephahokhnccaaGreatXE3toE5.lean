/-
  The stripped program's tables.
-/
import Derived.Test.YtbephahokhnccaaGreatXA17toE2
import Derived.Calls
namespace Go.Mark
open Go.Lift Go.Proofs
section
variable {P : Program} {F : Array Func} {w : World} {t : TypeId}
theorem s_underlying : (strip P F).underlying t = P.underlying t := rfl
theorem s_run_underlying : (underlying t).run (strip P F) w = (underlying t).run P w := by
  have e : (strip P F).underlying t = P.underlying t := rfl
  unfold underlying
  cases h : P.underlying t with
  | none => rw [h] at e; simp [h, e]
  | some d => rw [h] at e; simp [h, e]
theorem s_run_typeInfo : (typeInfo t).run (strip P F) w = (typeInfo t).run P w := by
  have e : (strip P F).info? t = P.info? t := rfl
  unfold typeInfo
  cases h : P.info? t with
  | none => rw [h] at e; simp [h]
  | some d => rw [h] at e; simp [h]
theorem s_run_sizeOf : (Go.sizeOf t).run (strip P F) w = (Go.sizeOf t).run P w := by
  unfold Go.sizeOf
  rw [Sem.run_bind, Sem.run_bind, s_run_typeInfo]
  cases (typeInfo t).run P w <;> rfl
theorem s_run_isAgg : (isAgg t).run (strip P F) w = (isAgg t).run P w := by
  have e := s_run_underlying (P := P) (F := F) (w := w) (t := t)
  unfold isAgg
  simp only [Sem.run_bind]
  generalize (underlying t).run (strip P F) w = x at e
  subst e
  cases (underlying t).run P w with
  | ok d v => simp only [Result.andThen_ok]; cases d <;> simp only [Sem.run_pure]
  | halt h v => simp only [Result.andThen]
theorem s_run_zeroValue : (zeroValue t).run (strip P F) w = (zeroValue t).run P w := by
  have e := s_run_typeInfo (P := P) (F := F) (w := w) (t := t)
  unfold zeroValue
  simp only [Sem.run_bind]
  generalize (typeInfo t).run (strip P F) w = x at e
  subst e
  cases (typeInfo t).run P w with
  | ok d v => simp only [Result.andThen_ok]; cases d.zero <;> simp [unsupported]
  | halt h v => simp only [Result.andThen]
theorem s_eqGuardType : ∀ (d : Nat) (t : TypeId), (strip P F).eqGuardType d t = P.eqGuardType d t
  | 0, _ => rfl
  | d + 1, t => by
    unfold Program.eqGuardType
    rw [s_underlying]
    split
    · rfl
    · simp only [s_eqGuardType d]
    · exact s_eqGuardType d _
    · rfl
theorem s_depth : (strip P F).depth = P.depth := rfl
end
@[simp, go_sem] theorem q_underlying (t : TypeId) : TryQ.prog.underlying t = Tryz.prog.underlying t := by
  rw [TryQ.prog_eq]
  exact s_underlying (P := Tryz.prog) (F := FQ)
@[simp, go_sem] theorem q_info (t : TypeId) : TryQ.prog.info? t = Tryz.prog.info? t := by
  rw [TryQ.prog_eq]
@[simp, go_sem] theorem q_types : TryQ.prog.types = Tryz.prog.types := by
  rw [TryQ.prog_eq]
@[simp, go_sem] theorem q_run_underlying (t : TypeId) (w : World) : (underlying t).run TryQ.prog w = (underlying t).run Tryz.prog w := by
  rw [TryQ.prog_eq]
  exact s_run_underlying (P := Tryz.prog) (F := FQ)
@[simp, go_sem] theorem q_run_typeInfo (t : TypeId) (w : World) : (typeInfo t).run TryQ.prog w = (typeInfo t).run Tryz.prog w := by
  rw [TryQ.prog_eq]
  exact s_run_typeInfo (P := Tryz.prog) (F := FQ)
@[simp, go_sem] theorem q_run_sizeOf (t : TypeId) (w : World) : (Go.sizeOf t).run TryQ.prog w = (Go.sizeOf t).run Tryz.prog w := by
  rw [TryQ.prog_eq]
  exact s_run_sizeOf (P := Tryz.prog) (F := FQ)
@[simp, go_sem] theorem q_run_isAgg (t : TypeId) (w : World) : (isAgg t).run TryQ.prog w = (isAgg t).run Tryz.prog w := by
  rw [TryQ.prog_eq]
  exact s_run_isAgg (P := Tryz.prog) (F := FQ)
@[simp, go_sem] theorem q_run_zeroValue (t : TypeId) (w : World) : (zeroValue t).run TryQ.prog w = (zeroValue t).run Tryz.prog w := by
  rw [TryQ.prog_eq]
  exact s_run_zeroValue (P := Tryz.prog) (F := FQ)
@[simp, go_sem] theorem q_eqGuardType (d : Nat) (t : TypeId) : TryQ.prog.eqGuardType d t = Tryz.prog.eqGuardType d t := s_eqGuardType (P := Tryz.prog) (F := FQ) d t
@[simp, go_sem] theorem q_depth : TryQ.prog.depth = Tryz.prog.depth := s_depth (P := Tryz.prog) (F := FQ)
@[simp, go_sem] theorem q_rt : TryQ.prog.rt = Tryz.prog.rt := by rw [TryQ.prog_eq]
@[simp, go_sem] theorem q_globals : TryQ.prog.globals = Tryz.prog.globals := by rw [TryQ.prog_eq]
end Go.Mark
/-
  The functions that the stripped program keeps.
-/
namespace Go.Proofs
open Go.Mark
@[simp] theorem TryQ.func45 : TryQ.prog.funcs[45]? = some Tryz.f45 := qfunc45
@[simp] theorem TryQ.func2 : TryQ.prog.funcs[2]? = some Tryz.f2 := qfunc Tryz.func2 (by kernel_rfl)
@[simp] theorem TryQ.func3 : TryQ.prog.funcs[3]? = some Tryz.f3 := qfunc Tryz.func3 (by kernel_rfl)
@[simp] theorem TryQ.func4 : TryQ.prog.funcs[4]? = some Tryz.f4 := qfunc Tryz.func4 (by kernel_rfl)
@[simp] theorem TryQ.func5 : TryQ.prog.funcs[5]? = some Tryz.f5 := qfunc Tryz.func5 (by kernel_rfl)
@[simp] theorem TryQ.func6 : TryQ.prog.funcs[6]? = some Tryz.f6 := qfunc Tryz.func6 (by kernel_rfl)
@[simp] theorem TryQ.func7 : TryQ.prog.funcs[7]? = some Tryz.f7 := qfunc Tryz.func7 (by kernel_rfl)
@[simp] theorem TryQ.func8 : TryQ.prog.funcs[8]? = some Tryz.f8 := qfunc Tryz.func8 (by kernel_rfl)
@[simp] theorem TryQ.func9 : TryQ.prog.funcs[9]? = some Tryz.f9 := qfunc Tryz.func9 (by kernel_rfl)
@[simp] theorem TryQ.func10 : TryQ.prog.funcs[10]? = some Tryz.f10 := qfunc Tryz.func10 (by kernel_rfl)
@[simp] theorem TryQ.func11 : TryQ.prog.funcs[11]? = some Tryz.f11 := qfunc Tryz.func11 (by kernel_rfl)
@[simp] theorem TryQ.func12 : TryQ.prog.funcs[12]? = some Tryz.f12 := qfunc Tryz.func12 (by kernel_rfl)
@[simp] theorem TryQ.func13 : TryQ.prog.funcs[13]? = some Tryz.f13 := qfunc Tryz.func13 (by kernel_rfl)
@[simp] theorem TryQ.func14 : TryQ.prog.funcs[14]? = some Tryz.f14 := qfunc Tryz.func14 (by kernel_rfl)
@[simp] theorem TryQ.func15 : TryQ.prog.funcs[15]? = some Tryz.f15 := qfunc Tryz.func15 (by kernel_rfl)
@[simp] theorem TryQ.func16 : TryQ.prog.funcs[16]? = some Tryz.f16 := qfunc Tryz.func16 (by kernel_rfl)
@[simp] theorem TryQ.func17 : TryQ.prog.funcs[17]? = some Tryz.f17 := qfunc Tryz.func17 (by kernel_rfl)
@[simp] theorem TryQ.func18 : TryQ.prog.funcs[18]? = some Tryz.f18 := qfunc Tryz.func18 (by kernel_rfl)
@[simp] theorem TryQ.func19 : TryQ.prog.funcs[19]? = some Tryz.f19 := qfunc Tryz.func19 (by kernel_rfl)
@[simp] theorem TryQ.func20 : TryQ.prog.funcs[20]? = some Tryz.f20 := qfunc Tryz.func20 (by kernel_rfl)
@[simp] theorem TryQ.func21 : TryQ.prog.funcs[21]? = some Tryz.f21 := qfunc Tryz.func21 (by kernel_rfl)
@[simp] theorem TryQ.func22 : TryQ.prog.funcs[22]? = some Tryz.f22 := qfunc Tryz.func22 (by kernel_rfl)
@[simp] theorem TryQ.func23 : TryQ.prog.funcs[23]? = some Tryz.f23 := qfunc Tryz.func23 (by kernel_rfl)
@[simp] theorem TryQ.func24 : TryQ.prog.funcs[24]? = some Tryz.f24 := qfunc Tryz.func24 (by kernel_rfl)
@[simp] theorem TryQ.func25 : TryQ.prog.funcs[25]? = some Tryz.f25 := qfunc Tryz.func25 (by kernel_rfl)
@[simp] theorem TryQ.func26 : TryQ.prog.funcs[26]? = some Tryz.f26 := qfunc Tryz.func26 (by kernel_rfl)
@[simp] theorem TryQ.func27 : TryQ.prog.funcs[27]? = some Tryz.f27 := qfunc Tryz.func27 (by kernel_rfl)
@[simp] theorem TryQ.func28 : TryQ.prog.funcs[28]? = some Tryz.f28 := qfunc Tryz.func28 (by kernel_rfl)
@[simp] theorem TryQ.func29 : TryQ.prog.funcs[29]? = some Tryz.f29 := qfunc Tryz.func29 (by kernel_rfl)
@[simp] theorem TryQ.func30 : TryQ.prog.funcs[30]? = some Tryz.f30 := qfunc Tryz.func30 (by kernel_rfl)
@[simp] theorem TryQ.func31 : TryQ.prog.funcs[31]? = some Tryz.f31 := qfunc Tryz.func31 (by kernel_rfl)
@[simp] theorem TryQ.func32 : TryQ.prog.funcs[32]? = some Tryz.f32 := qfunc Tryz.func32 (by kernel_rfl)
@[simp] theorem TryQ.func33 : TryQ.prog.funcs[33]? = some Tryz.f33 := qfunc Tryz.func33 (by kernel_rfl)
@[simp] theorem TryQ.func34 : TryQ.prog.funcs[34]? = some Tryz.f34 := qfunc Tryz.func34 (by kernel_rfl)
@[simp] theorem TryQ.func35 : TryQ.prog.funcs[35]? = some Tryz.f35 := qfunc Tryz.func35 (by kernel_rfl)
@[simp] theorem TryQ.func37 : TryQ.prog.funcs[37]? = some Tryz.f37 := qfunc Tryz.func37 (by kernel_rfl)
@[simp] theorem TryQ.func38 : TryQ.prog.funcs[38]? = some Tryz.f38 := qfunc Tryz.func38 (by kernel_rfl)
@[simp] theorem TryQ.func40 : TryQ.prog.funcs[40]? = some Tryz.f40 := qfunc Tryz.func40 (by kernel_rfl)
@[simp] theorem TryQ.func41 : TryQ.prog.funcs[41]? = some Tryz.f41 := qfunc Tryz.func41 (by kernel_rfl)
@[simp] theorem TryQ.func42 : TryQ.prog.funcs[42]? = some Tryz.f42 := qfunc Tryz.func42 (by kernel_rfl)
@[simp] theorem TryQ.func43 : TryQ.prog.funcs[43]? = some Tryz.f43 := qfunc Tryz.func43 (by kernel_rfl)
@[simp] theorem TryQ.func44 : TryQ.prog.funcs[44]? = some Tryz.f44 := qfunc Tryz.func44 (by kernel_rfl)
@[simp] theorem TryQ.func49 : TryQ.prog.funcs[49]? = some Tryz.f49 := qfunc Tryz.func49 (by kernel_rfl)
@[simp] theorem TryQ.func50 : TryQ.prog.funcs[50]? = some Tryz.f50 := qfunc Tryz.func50 (by kernel_rfl)
@[simp] theorem TryQ.func52 : TryQ.prog.funcs[52]? = some Tryz.f52 := qfunc Tryz.func52 (by kernel_rfl)
@[simp] theorem TryQ.func56 : TryQ.prog.funcs[56]? = some Tryz.f56 := qfunc Tryz.func56 (by kernel_rfl)
@[simp] theorem TryQ.func61 : TryQ.prog.funcs[61]? = some Tryz.f61 := qfunc Tryz.func61 (by kernel_rfl)
@[simp] theorem TryQ.func62 : TryQ.prog.funcs[62]? = some Tryz.f62 := qfunc Tryz.func62 (by kernel_rfl)
@[simp] theorem TryQ.func63 : TryQ.prog.funcs[63]? = some Tryz.f63 := qfunc Tryz.func63 (by kernel_rfl)
@[simp] theorem TryQ.func64 : TryQ.prog.funcs[64]? = some Tryz.f64 := qfunc Tryz.func64 (by kernel_rfl)
@[simp] theorem TryQ.func65 : TryQ.prog.funcs[65]? = some Tryz.f65 := qfunc Tryz.func65 (by kernel_rfl)
@[simp] theorem TryQ.func66 : TryQ.prog.funcs[66]? = some Tryz.f66 := qfunc Tryz.func66 (by kernel_rfl)
@[simp] theorem TryQ.func70 : TryQ.prog.funcs[70]? = some Tryz.f70 := qfunc Tryz.func70 (by kernel_rfl)
@[simp] theorem TryQ.func71 : TryQ.prog.funcs[71]? = some Tryz.f71 := qfunc Tryz.func71 (by kernel_rfl)
@[simp] theorem TryQ.func73 : TryQ.prog.funcs[73]? = some Tryz.f73 := qfunc Tryz.func73 (by kernel_rfl)
@[simp] theorem TryQ.func77 : TryQ.prog.funcs[77]? = some Tryz.f77 := qfunc Tryz.func77 (by kernel_rfl)
@[simp] theorem TryQ.func78 : TryQ.prog.funcs[78]? = some Tryz.f78 := qfunc Tryz.func78 (by kernel_rfl)
@[simp] theorem TryQ.func79 : TryQ.prog.funcs[79]? = some Tryz.f79 := qfunc Tryz.func79 (by kernel_rfl)
@[simp] theorem TryQ.func80 : TryQ.prog.funcs[80]? = some Tryz.f80 := qfunc Tryz.func80 (by kernel_rfl)
@[simp] theorem TryQ.func81 : TryQ.prog.funcs[81]? = some Tryz.f81 := qfunc Tryz.func81 (by kernel_rfl)
@[simp] theorem TryQ.func82 : TryQ.prog.funcs[82]? = some Tryz.f82 := qfunc Tryz.func82 (by kernel_rfl)
@[simp] theorem TryQ.func83 : TryQ.prog.funcs[83]? = some Tryz.f83 := qfunc Tryz.func83 (by kernel_rfl)
@[simp] theorem TryQ.func84 : TryQ.prog.funcs[84]? = some Tryz.f84 := qfunc Tryz.func84 (by kernel_rfl)
@[simp] theorem TryQ.func85 : TryQ.prog.funcs[85]? = some Tryz.f85 := qfunc Tryz.func85 (by kernel_rfl)
@[simp] theorem TryQ.func86 : TryQ.prog.funcs[86]? = some Tryz.f86 := qfunc Tryz.func86 (by kernel_rfl)
@[simp] theorem TryQ.func87 : TryQ.prog.funcs[87]? = some Tryz.f87 := qfunc Tryz.func87 (by kernel_rfl)
@[simp] theorem TryQ.func88 : TryQ.prog.funcs[88]? = some Tryz.f88 := qfunc Tryz.func88 (by kernel_rfl)
@[simp] theorem TryQ.func89 : TryQ.prog.funcs[89]? = some Tryz.f89 := qfunc Tryz.func89 (by kernel_rfl)
@[simp] theorem TryQ.func90 : TryQ.prog.funcs[90]? = some Tryz.f90 := qfunc Tryz.func90 (by kernel_rfl)
@[simp] theorem TryQ.func91 : TryQ.prog.funcs[91]? = some Tryz.f91 := qfunc Tryz.func91 (by kernel_rfl)
@[simp] theorem TryQ.func95 : TryQ.prog.funcs[95]? = some Tryz.f95 := qfunc Tryz.func95 (by kernel_rfl)
@[simp] theorem TryQ.func96 : TryQ.prog.funcs[96]? = some Tryz.f96 := qfunc Tryz.func96 (by kernel_rfl)
@[simp] theorem TryQ.func97 : TryQ.prog.funcs[97]? = some Tryz.f97 := qfunc Tryz.func97 (by kernel_rfl)
@[simp] theorem TryQ.func98 : TryQ.prog.funcs[98]? = some Tryz.f98 := qfunc Tryz.func98 (by kernel_rfl)
@[simp] theorem TryQ.func99 : TryQ.prog.funcs[99]? = some Tryz.f99 := qfunc Tryz.func99 (by kernel_rfl)
@[simp] theorem TryQ.func100 : TryQ.prog.funcs[100]? = some Tryz.f100 := qfunc Tryz.func100 (by kernel_rfl)
@[simp] theorem TryQ.func101 : TryQ.prog.funcs[101]? = some Tryz.f101 := qfunc Tryz.func101 (by kernel_rfl)
@[simp] theorem TryQ.func102 : TryQ.prog.funcs[102]? = some Tryz.f102 := qfunc Tryz.func102 (by kernel_rfl)
@[simp] theorem TryQ.func103 : TryQ.prog.funcs[103]? = some Tryz.f103 := qfunc Tryz.func103 (by kernel_rfl)
@[simp] theorem TryQ.func104 : TryQ.prog.funcs[104]? = some Tryz.f104 := qfunc Tryz.func104 (by kernel_rfl)
@[simp] theorem TryQ.func105 : TryQ.prog.funcs[105]? = some Tryz.f105 := qfunc Tryz.func105 (by kernel_rfl)
@[simp] theorem TryQ.func106 : TryQ.prog.funcs[106]? = some Tryz.f106 := qfunc Tryz.func106 (by kernel_rfl)
@[simp] theorem TryQ.func107 : TryQ.prog.funcs[107]? = some Tryz.f107 := qfunc Tryz.func107 (by kernel_rfl)
@[simp] theorem TryQ.func108 : TryQ.prog.funcs[108]? = some Tryz.f108 := qfunc Tryz.func108 (by kernel_rfl)
@[simp] theorem TryQ.func109 : TryQ.prog.funcs[109]? = some Tryz.f109 := qfunc Tryz.func109 (by kernel_rfl)
@[simp] theorem TryQ.func110 : TryQ.prog.funcs[110]? = some Tryz.f110 := qfunc Tryz.func110 (by kernel_rfl)
@[simp] theorem TryQ.func111 : TryQ.prog.funcs[111]? = some Tryz.f111 := qfunc Tryz.func111 (by kernel_rfl)
@[simp] theorem TryQ.func112 : TryQ.prog.funcs[112]? = some Tryz.f112 := qfunc Tryz.func112 (by kernel_rfl)
@[simp] theorem TryQ.func113 : TryQ.prog.funcs[113]? = some Tryz.f113 := qfunc Tryz.func113 (by kernel_rfl)
@[simp] theorem TryQ.func114 : TryQ.prog.funcs[114]? = some Tryz.f114 := qfunc Tryz.func114 (by kernel_rfl)
@[simp] theorem TryQ.func115 : TryQ.prog.funcs[115]? = some Tryz.f115 := qfunc Tryz.func115 (by kernel_rfl)
@[simp] theorem TryQ.func116 : TryQ.prog.funcs[116]? = some Tryz.f116 := qfunc Tryz.func116 (by kernel_rfl)
@[simp] theorem TryQ.call2 (args : Array Value) (w : World) : (callFunc 2 args).run TryQ.prog w = .ok (.enter 2 args) w := (call_body TryQ.func2 rfl rfl w).1
@[simp] theorem TryQ.call3 (args : Array Value) (w : World) : (callFunc 3 args).run TryQ.prog w = .ok (.enter 3 args) w := (call_body TryQ.func3 rfl rfl w).1
@[simp] theorem TryQ.call4 (args : Array Value) (w : World) : (callFunc 4 args).run TryQ.prog w = .ok (.enter 4 args) w := (call_body TryQ.func4 rfl rfl w).1
@[simp] theorem TryQ.call5 (args : Array Value) (w : World) : (callFunc 5 args).run TryQ.prog w = .ok (.enter 5 args) w := (call_body TryQ.func5 rfl rfl w).1
@[simp] theorem TryQ.call6 (args : Array Value) (w : World) : (callFunc 6 args).run TryQ.prog w = .ok (.enter 6 args) w := (call_body TryQ.func6 rfl rfl w).1
@[simp] theorem TryQ.call7 (args : Array Value) (w : World) : (callFunc 7 args).run TryQ.prog w = .ok (.enter 7 args) w := (call_body TryQ.func7 rfl rfl w).1
@[simp] theorem TryQ.call8 (args : Array Value) (w : World) : (callFunc 8 args).run TryQ.prog w = .ok (.enter 8 args) w := (call_body TryQ.func8 rfl rfl w).1
@[simp] theorem TryQ.call9 (args : Array Value) (w : World) : (callFunc 9 args).run TryQ.prog w = .ok (.enter 9 args) w := (call_body TryQ.func9 rfl rfl w).1
@[simp] theorem TryQ.call10 (args : Array Value) (w : World) : (callFunc 10 args).run TryQ.prog w = .ok (.enter 10 args) w := (call_body TryQ.func10 rfl rfl w).1
@[simp] theorem TryQ.call11 (args : Array Value) (w : World) : (callFunc 11 args).run TryQ.prog w = .ok (.enter 11 args) w := (call_body TryQ.func11 rfl rfl w).1
@[simp] theorem TryQ.call12 (args : Array Value) (w : World) : (callFunc 12 args).run TryQ.prog w = .ok (.enter 12 args) w := (call_body TryQ.func12 rfl rfl w).1
@[simp] theorem TryQ.call13 (args : Array Value) (w : World) : (callFunc 13 args).run TryQ.prog w = .ok (.enter 13 args) w := (call_body TryQ.func13 rfl rfl w).1
@[simp] theorem TryQ.call14 (args : Array Value) (w : World) : (callFunc 14 args).run TryQ.prog w = .ok (.enter 14 args) w := (call_body TryQ.func14 rfl rfl w).1
@[simp] theorem TryQ.call15 (args : Array Value) (w : World) : (callFunc 15 args).run TryQ.prog w = .ok (.enter 15 args) w := (call_body TryQ.func15 rfl rfl w).1
@[simp] theorem TryQ.call16 (args : Array Value) (w : World) : (callFunc 16 args).run TryQ.prog w = .ok (.enter 16 args) w := (call_body TryQ.func16 rfl rfl w).1
@[simp] theorem TryQ.call17 (args : Array Value) (w : World) : (callFunc 17 args).run TryQ.prog w = .ok (.enter 17 args) w := (call_body TryQ.func17 rfl rfl w).1
@[simp] theorem TryQ.call18 (args : Array Value) (w : World) : (callFunc 18 args).run TryQ.prog w = .ok (.enter 18 args) w := (call_body TryQ.func18 rfl rfl w).1
@[simp] theorem TryQ.call19 (args : Array Value) (w : World) : (callFunc 19 args).run TryQ.prog w = .ok (.enter 19 args) w := (call_body TryQ.func19 rfl rfl w).1
@[simp] theorem TryQ.call20 (args : Array Value) (w : World) : (callFunc 20 args).run TryQ.prog w = .ok (.enter 20 args) w := (call_body TryQ.func20 rfl rfl w).1
@[simp] theorem TryQ.call21 (args : Array Value) (w : World) : (callFunc 21 args).run TryQ.prog w = .ok (.enter 21 args) w := (call_body TryQ.func21 rfl rfl w).1
@[simp] theorem TryQ.call22 (args : Array Value) (w : World) : (callFunc 22 args).run TryQ.prog w = .ok (.enter 22 args) w := (call_body TryQ.func22 rfl rfl w).1
@[simp] theorem TryQ.call23 (args : Array Value) (w : World) : (callFunc 23 args).run TryQ.prog w = .ok (.enter 23 args) w := (call_body TryQ.func23 rfl rfl w).1
@[simp] theorem TryQ.call24 (args : Array Value) (w : World) : (callFunc 24 args).run TryQ.prog w = .ok (.enter 24 args) w := (call_body TryQ.func24 rfl rfl w).1
@[simp] theorem TryQ.call25 (args : Array Value) (w : World) : (callFunc 25 args).run TryQ.prog w = .ok (.enter 25 args) w := (call_body TryQ.func25 rfl rfl w).1
@[simp] theorem TryQ.call26 (args : Array Value) (w : World) : (callFunc 26 args).run TryQ.prog w = .ok (.enter 26 args) w := (call_body TryQ.func26 rfl rfl w).1
@[simp] theorem TryQ.call27 (args : Array Value) (w : World) : (callFunc 27 args).run TryQ.prog w = .ok (.enter 27 args) w := (call_body TryQ.func27 rfl rfl w).1
@[simp] theorem TryQ.call28 (args : Array Value) (w : World) : (callFunc 28 args).run TryQ.prog w = .ok (.enter 28 args) w := (call_body TryQ.func28 rfl rfl w).1
@[simp] theorem TryQ.call29 (args : Array Value) (w : World) : (callFunc 29 args).run TryQ.prog w = .ok (.enter 29 args) w := (call_body TryQ.func29 rfl rfl w).1
@[simp] theorem TryQ.call30 (args : Array Value) (w : World) : (callFunc 30 args).run TryQ.prog w = .ok (.enter 30 args) w := (call_body TryQ.func30 rfl rfl w).1
@[simp] theorem TryQ.call31 (args : Array Value) (w : World) : (callFunc 31 args).run TryQ.prog w = .ok (.enter 31 args) w := (call_body TryQ.func31 rfl rfl w).1
@[simp] theorem TryQ.call32 (args : Array Value) (w : World) : (callFunc 32 args).run TryQ.prog w = .ok (.enter 32 args) w := (call_body TryQ.func32 rfl rfl w).1
@[simp] theorem TryQ.call33 (args : Array Value) (w : World) : (callFunc 33 args).run TryQ.prog w = .ok (.enter 33 args) w := (call_body TryQ.func33 rfl rfl w).1
@[simp] theorem TryQ.call34 (args : Array Value) (w : World) : (callFunc 34 args).run TryQ.prog w = .ok (.enter 34 args) w := (call_body TryQ.func34 rfl rfl w).1
@[simp] theorem TryQ.call35 (args : Array Value) (w : World) : (callFunc 35 args).run TryQ.prog w = .ok (.enter 35 args) w := (call_body TryQ.func35 rfl rfl w).1
@[simp] theorem TryQ.call37 (args : Array Value) (w : World) : (callFunc 37 args).run TryQ.prog w = .ok (.enter 37 args) w := (call_body TryQ.func37 rfl rfl w).1
@[simp] theorem TryQ.call38 (args : Array Value) (w : World) : (callFunc 38 args).run TryQ.prog w = .ok (.enter 38 args) w := (call_body TryQ.func38 rfl rfl w).1
@[simp] theorem TryQ.call40 (args : Array Value) (w : World) : (callFunc 40 args).run TryQ.prog w = .ok (.enter 40 args) w := (call_body TryQ.func40 rfl rfl w).1
@[simp] theorem TryQ.call41 (args : Array Value) (w : World) : (callFunc 41 args).run TryQ.prog w = .ok (.enter 41 args) w := (call_body TryQ.func41 rfl rfl w).1
@[simp] theorem TryQ.call42 (args : Array Value) (w : World) : (callFunc 42 args).run TryQ.prog w = .ok (.enter 42 args) w := (call_body TryQ.func42 rfl rfl w).1
@[simp] theorem TryQ.call43 (args : Array Value) (w : World) : (callFunc 43 args).run TryQ.prog w = .ok (.enter 43 args) w := (call_body TryQ.func43 rfl rfl w).1
@[simp] theorem TryQ.call44 (args : Array Value) (w : World) : (callFunc 44 args).run TryQ.prog w = .ok (.enter 44 args) w := (call_body TryQ.func44 rfl rfl w).1
@[simp] theorem TryQ.call49 (args : Array Value) (w : World) : (callFunc 49 args).run TryQ.prog w = .ok (.enter 49 args) w := (call_body TryQ.func49 rfl rfl w).1
@[simp] theorem TryQ.call50 (args : Array Value) (w : World) : (callFunc 50 args).run TryQ.prog w = .ok (.enter 50 args) w := (call_body TryQ.func50 rfl rfl w).1
@[simp] theorem TryQ.call52 (args : Array Value) (w : World) : (callFunc 52 args).run TryQ.prog w = .ok (.enter 52 args) w := (call_body TryQ.func52 rfl rfl w).1
@[simp] theorem TryQ.call56 (args : Array Value) (w : World) : (callFunc 56 args).run TryQ.prog w = .ok (.enter 56 args) w := (call_body TryQ.func56 rfl rfl w).1
@[simp] theorem TryQ.call61 (args : Array Value) (w : World) : (callFunc 61 args).run TryQ.prog w = .ok (.enter 61 args) w := (call_body TryQ.func61 rfl rfl w).1
@[simp] theorem TryQ.call62 (args : Array Value) (w : World) : (callFunc 62 args).run TryQ.prog w = .ok (.enter 62 args) w := (call_body TryQ.func62 rfl rfl w).1
@[simp] theorem TryQ.call63 (args : Array Value) (w : World) : (callFunc 63 args).run TryQ.prog w = .ok (.enter 63 args) w := (call_body TryQ.func63 rfl rfl w).1
@[simp] theorem TryQ.call64 (args : Array Value) (w : World) : (callFunc 64 args).run TryQ.prog w = .ok (.enter 64 args) w := (call_body TryQ.func64 rfl rfl w).1
@[simp] theorem TryQ.call65 (args : Array Value) (w : World) : (callFunc 65 args).run TryQ.prog w = .ok (.enter 65 args) w := (call_body TryQ.func65 rfl rfl w).1
@[simp] theorem TryQ.call66 (args : Array Value) (w : World) : (callFunc 66 args).run TryQ.prog w = .ok (.enter 66 args) w := (call_body TryQ.func66 rfl rfl w).1
@[simp] theorem TryQ.call70 (args : Array Value) (w : World) : (callFunc 70 args).run TryQ.prog w = .ok (.enter 70 args) w := (call_body TryQ.func70 rfl rfl w).1
@[simp] theorem TryQ.call71 (args : Array Value) (w : World) : (callFunc 71 args).run TryQ.prog w = .ok (.enter 71 args) w := (call_body TryQ.func71 rfl rfl w).1
@[simp] theorem TryQ.call73 (args : Array Value) (w : World) : (callFunc 73 args).run TryQ.prog w = .ok (.enter 73 args) w := (call_body TryQ.func73 rfl rfl w).1
@[simp] theorem TryQ.call77 (args : Array Value) (w : World) : (callFunc 77 args).run TryQ.prog w = .ok (.enter 77 args) w := (call_body TryQ.func77 rfl rfl w).1
@[simp] theorem TryQ.call78 (args : Array Value) (w : World) : (callFunc 78 args).run TryQ.prog w = .ok (.enter 78 args) w := (call_body TryQ.func78 rfl rfl w).1
@[simp] theorem TryQ.call79 (args : Array Value) (w : World) : (callFunc 79 args).run TryQ.prog w = .ok (.enter 79 args) w := (call_body TryQ.func79 rfl rfl w).1
@[simp] theorem TryQ.call80 (args : Array Value) (w : World) : (callFunc 80 args).run TryQ.prog w = .ok (.enter 80 args) w := (call_body TryQ.func80 rfl rfl w).1
@[simp] theorem TryQ.call81 (args : Array Value) (w : World) : (callFunc 81 args).run TryQ.prog w = .ok (.enter 81 args) w := (call_body TryQ.func81 rfl rfl w).1
@[simp] theorem TryQ.call82 (args : Array Value) (w : World) : (callFunc 82 args).run TryQ.prog w = .ok (.enter 82 args) w := (call_body TryQ.func82 rfl rfl w).1
@[simp] theorem TryQ.call83 (args : Array Value) (w : World) : (callFunc 83 args).run TryQ.prog w = .ok (.enter 83 args) w := (call_body TryQ.func83 rfl rfl w).1
@[simp] theorem TryQ.call84 (args : Array Value) (w : World) : (callFunc 84 args).run TryQ.prog w = .ok (.enter 84 args) w := (call_body TryQ.func84 rfl rfl w).1
@[simp] theorem TryQ.call85 (args : Array Value) (w : World) : (callFunc 85 args).run TryQ.prog w = .ok (.enter 85 args) w := (call_body TryQ.func85 rfl rfl w).1
@[simp] theorem TryQ.call86 (args : Array Value) (w : World) : (callFunc 86 args).run TryQ.prog w = .ok (.enter 86 args) w := (call_body TryQ.func86 rfl rfl w).1
@[simp] theorem TryQ.call87 (args : Array Value) (w : World) : (callFunc 87 args).run TryQ.prog w = .ok (.enter 87 args) w := (call_body TryQ.func87 rfl rfl w).1
@[simp] theorem TryQ.call88 (args : Array Value) (w : World) : (callFunc 88 args).run TryQ.prog w = .ok (.enter 88 args) w := (call_body TryQ.func88 rfl rfl w).1
@[simp] theorem TryQ.call89 (args : Array Value) (w : World) : (callFunc 89 args).run TryQ.prog w = .ok (.enter 89 args) w := (call_body TryQ.func89 rfl rfl w).1
@[simp] theorem TryQ.call90 (args : Array Value) (w : World) : (callFunc 90 args).run TryQ.prog w = .ok (.enter 90 args) w := (call_body TryQ.func90 rfl rfl w).1
@[simp] theorem TryQ.call91 (args : Array Value) (w : World) : (callFunc 91 args).run TryQ.prog w = .ok (.enter 91 args) w := (call_body TryQ.func91 rfl rfl w).1
@[simp] theorem TryQ.call95 (args : Array Value) (w : World) : (callFunc 95 args).run TryQ.prog w = .ok (.enter 95 args) w := (call_body TryQ.func95 rfl rfl w).1
@[simp] theorem TryQ.call96 (args : Array Value) (w : World) : (callFunc 96 args).run TryQ.prog w = .ok (.enter 96 args) w := (call_body TryQ.func96 rfl rfl w).1
@[simp] theorem TryQ.call97 (args : Array Value) (w : World) : (callFunc 97 args).run TryQ.prog w = .ok (.enter 97 args) w := (call_body TryQ.func97 rfl rfl w).1
@[simp] theorem TryQ.call98 (args : Array Value) (w : World) : (callFunc 98 args).run TryQ.prog w = .ok (.enter 98 args) w := (call_body TryQ.func98 rfl rfl w).1
@[simp] theorem TryQ.call99 (args : Array Value) (w : World) : (callFunc 99 args).run TryQ.prog w = .ok (.enter 99 args) w := (call_body TryQ.func99 rfl rfl w).1
@[simp] theorem TryQ.call100 (args : Array Value) (w : World) : (callFunc 100 args).run TryQ.prog w = .ok (.enter 100 args) w := (call_body TryQ.func100 rfl rfl w).1
@[simp] theorem TryQ.call101 (args : Array Value) (w : World) : (callFunc 101 args).run TryQ.prog w = .ok (.enter 101 args) w := (call_body TryQ.func101 rfl rfl w).1
@[simp] theorem TryQ.call102 (args : Array Value) (w : World) : (callFunc 102 args).run TryQ.prog w = .ok (.enter 102 args) w := (call_body TryQ.func102 rfl rfl w).1
@[simp] theorem TryQ.call103 (args : Array Value) (w : World) : (callFunc 103 args).run TryQ.prog w = .ok (.enter 103 args) w := (call_body TryQ.func103 rfl rfl w).1
@[simp] theorem TryQ.call104 (args : Array Value) (w : World) : (callFunc 104 args).run TryQ.prog w = .ok (.enter 104 args) w := (call_body TryQ.func104 rfl rfl w).1
@[simp] theorem TryQ.call105 (args : Array Value) (w : World) : (callFunc 105 args).run TryQ.prog w = .ok (.enter 105 args) w := (call_body TryQ.func105 rfl rfl w).1
@[simp] theorem TryQ.call106 (args : Array Value) (w : World) : (callFunc 106 args).run TryQ.prog w = .ok (.enter 106 args) w := (call_body TryQ.func106 rfl rfl w).1
@[simp] theorem TryQ.call107 (args : Array Value) (w : World) : (callFunc 107 args).run TryQ.prog w = .ok (.enter 107 args) w := (call_body TryQ.func107 rfl rfl w).1
@[simp] theorem TryQ.call108 (args : Array Value) (w : World) : (callFunc 108 args).run TryQ.prog w = .ok (.enter 108 args) w := (call_body TryQ.func108 rfl rfl w).1
@[simp] theorem TryQ.call109 (args : Array Value) (w : World) : (callFunc 109 args).run TryQ.prog w = .ok (.enter 109 args) w := (call_body TryQ.func109 rfl rfl w).1
@[simp] theorem TryQ.call110 (args : Array Value) (w : World) : (callFunc 110 args).run TryQ.prog w = .ok (.enter 110 args) w := (call_body TryQ.func110 rfl rfl w).1
@[simp] theorem TryQ.call111 (args : Array Value) (w : World) : (callFunc 111 args).run TryQ.prog w = .ok (.enter 111 args) w := (call_body TryQ.func111 rfl rfl w).1
@[simp] theorem TryQ.call112 (args : Array Value) (w : World) : (callFunc 112 args).run TryQ.prog w = .ok (.enter 112 args) w := (call_body TryQ.func112 rfl rfl w).1
@[simp] theorem TryQ.call113 (args : Array Value) (w : World) : (callFunc 113 args).run TryQ.prog w = .ok (.enter 113 args) w := (call_body TryQ.func113 rfl rfl w).1
@[simp] theorem TryQ.call114 (args : Array Value) (w : World) : (callFunc 114 args).run TryQ.prog w = .ok (.enter 114 args) w := (call_body TryQ.func114 rfl rfl w).1
@[simp] theorem TryQ.call115 (args : Array Value) (w : World) : (callFunc 115 args).run TryQ.prog w = .ok (.enter 115 args) w := (call_body TryQ.func115 rfl rfl w).1
@[simp] theorem TryQ.call116 (args : Array Value) (w : World) : (callFunc 116 args).run TryQ.prog w = .ok (.enter 116 args) w := (call_body TryQ.func116 rfl rfl w).1
theorem TryQ.ntmps3 : type_of% Tryz.ntmps3 := Tryz.ntmps3
theorem TryQ.ntmps4 : type_of% Tryz.ntmps4 := Tryz.ntmps4
theorem TryQ.ntmps5 : type_of% Tryz.ntmps5 := Tryz.ntmps5
theorem TryQ.ntmps6 : type_of% Tryz.ntmps6 := Tryz.ntmps6
theorem TryQ.ntmps7 : type_of% Tryz.ntmps7 := Tryz.ntmps7
theorem TryQ.ntmps8 : type_of% Tryz.ntmps8 := Tryz.ntmps8
theorem TryQ.ntmps9 : type_of% Tryz.ntmps9 := Tryz.ntmps9
theorem TryQ.ntmps10 : type_of% Tryz.ntmps10 := Tryz.ntmps10
theorem TryQ.ntmps11 : type_of% Tryz.ntmps11 := Tryz.ntmps11
theorem TryQ.ntmps12 : type_of% Tryz.ntmps12 := Tryz.ntmps12
theorem TryQ.ntmps13 : type_of% Tryz.ntmps13 := Tryz.ntmps13
theorem TryQ.ntmps14 : type_of% Tryz.ntmps14 := Tryz.ntmps14
theorem TryQ.ntmps15 : type_of% Tryz.ntmps15 := Tryz.ntmps15
theorem TryQ.ntmps16 : type_of% Tryz.ntmps16 := Tryz.ntmps16
theorem TryQ.ntmps17 : type_of% Tryz.ntmps17 := Tryz.ntmps17
theorem TryQ.ntmps18 : type_of% Tryz.ntmps18 := Tryz.ntmps18
theorem TryQ.ntmps19 : type_of% Tryz.ntmps19 := Tryz.ntmps19
theorem TryQ.ntmps20 : type_of% Tryz.ntmps20 := Tryz.ntmps20
theorem TryQ.ntmps21 : type_of% Tryz.ntmps21 := Tryz.ntmps21
theorem TryQ.ntmps22 : type_of% Tryz.ntmps22 := Tryz.ntmps22
theorem TryQ.ntmps23 : type_of% Tryz.ntmps23 := Tryz.ntmps23
theorem TryQ.ntmps24 : type_of% Tryz.ntmps24 := Tryz.ntmps24
theorem TryQ.ntmps26 : type_of% Tryz.ntmps26 := Tryz.ntmps26
theorem TryQ.ntmps27 : type_of% Tryz.ntmps27 := Tryz.ntmps27
theorem TryQ.ntmps28 : type_of% Tryz.ntmps28 := Tryz.ntmps28
theorem TryQ.ntmps29 : type_of% Tryz.ntmps29 := Tryz.ntmps29
theorem TryQ.ntmps32 : type_of% Tryz.ntmps32 := Tryz.ntmps32
theorem TryQ.ntmps33 : type_of% Tryz.ntmps33 := Tryz.ntmps33
theorem TryQ.ntmps34 : type_of% Tryz.ntmps34 := Tryz.ntmps34
theorem TryQ.ntmps35 : type_of% Tryz.ntmps35 := Tryz.ntmps35
theorem TryQ.ntmps44 : type_of% Tryz.ntmps44 := Tryz.ntmps44
theorem TryQ.ntmps64 : type_of% Tryz.ntmps64 := Tryz.ntmps64
theorem TryQ.ntmps65 : type_of% Tryz.ntmps65 := Tryz.ntmps65
theorem TryQ.ntmps66 : type_of% Tryz.ntmps66 := Tryz.ntmps66
theorem TryQ.ntmps88 : type_of% Tryz.ntmps88 := Tryz.ntmps88
theorem TryQ.ntmps90 : type_of% Tryz.ntmps90 := Tryz.ntmps90
theorem TryQ.ntmps91 : type_of% Tryz.ntmps91 := Tryz.ntmps91
theorem TryQ.ntmps101 : type_of% Tryz.ntmps101 := Tryz.ntmps101
theorem TryQ.ntmps103 : type_of% Tryz.ntmps103 := Tryz.ntmps103
end Go.Proofs
/-
  Lone contracts of the stripped program, carried over to goroutine 0 beside leavers.
-/
namespace Go.Mark
open Go.Conc Go.Lift Go.Proofs
theorem tame_at {b : Frame} {a : Act} {k : List Item} (hb : b.kind = .normal) (ha : a.defers = []) (hk : ∀ x ∈ k, okItem Tryz.prog x = true) : TameF Tryz.prog (b.at a k) :=
  ⟨hk, fun d hd => by simp [Frame.at, ha] at hd, .inl rfl, hb⟩
theorem will_mono {P : Program} {D : World → World → Array Event → Prop} {S S' : Goroutine → World → Prop} (hS : ∀ a w, S a w → S' a w) {a : Goroutine} {w : World} (h : Will P D S a w) : Will P D S' a w := by
  induction h with
  | stop h => exact .stop fun w₁ h₁ => hS _ _ (h w₁ h₁)
  | step run nx h1 _ ih => exact .step run nx h1 ih
/-- a piece of code -/
theorem lift_code {D : Nat → Prop} {c : Code} {b : Frame} {a : Act} {k : List Item} {cw : List Frame} {w : World} {Φ : Act → World → Prop} (hb : b.kind = .normal) (ha : a.defers = []) (hc : okCode Tryz.prog c = true) (hk : ∀ x ∈ k, okItem Tryz.prog x = true)
    (hex : ∃ v, Rel (veil D) w v) (hwp : ∀ v, Rel (veil D) w v → c.wp TryQ.prog (fun e a' v' => e = .normal ∧ a'.defers = [] ∧ Φ a' v') a v) :
    Will Tryz.prog (DClean (veil D)) (fun g w' => ∃ a' v', g = G (b.at a' k) cw ∧ Rel (veil D) w' v' ∧ Stays w w' v' ∧ a'.defers = [] ∧ Φ a' v') (G (b.at a (.code c :: k)) cw) w := by
  refine will_mono ?_ (lift (fair D) (cw := cw) (S := fun fr frs v => ∃ a', fr = b.at a' k ∧ frs = [] ∧ a'.defers = [] ∧ Φ a' v) (fr := b.at a (.code c :: k)) (frs := []) (w := w)
    (tame_at hb ha (fun x hx => by rcases List.mem_cons.1 hx with rfl | hx; exact hc; exact hk x hx)) (fun f hf => by simp at hf) hex (fun v hv => ?_))
  · rintro g w' ⟨fr, frs, v, rfl, hr, hs, a', rfl, rfl, hd, hΦ⟩
    exact ⟨a', v, rfl, hr, hs, hd, hΦ⟩
  · obtain ⟨e, a', v', ⟨rfl, hd, hΦ⟩, n, hn⟩ := hwp v hv b k [trap FQ.size]
    rw [TryQ.prog_eq] at hn
    exact ⟨n, b.at a' k, [], v', hn, tame_at hb hd hk, a', rfl, rfl, hd, hΦ⟩
/-- what a caller has behind the call -/
def after (b₀ : Frame) (a₀ : Act) (ops₀ : Array Oper) (i₀ : Nat) (rest₀ : List Nat) (k₀ : List Item) (v : Value) : Frame := b₀.at (a₀.put ((ops₀[i₀]?).bind (·.dst)) v) (.inRegion ops₀ rest₀ :: k₀)
theorem put_nil (a : Act) (x : Option Tmp) (v : Value) (h : a.defers = []) : (a.put x v).defers = [] := by cases x <;> exact h
theorem leave_steps {Q : Program} {f : FuncId} {fn : Func} {b c : Frame} {a : Act} {todo : List Item} {cs : List Frame} {v : World} {val : Value} (hbf : b.fn = f) (hb : b.kind = .normal) (hf : Q.funcs[f]? = some fn) (hd : a.defers = []) (hr : (results fn a.tmps).run Q v = .ok val v) :
    Steps Q (lone { b.at a todo with mode := .returning } (c :: cs) v) (lone (c.finish val) cs v) :=
  .one (step_leave_returned ⟨rfl, hd, hb, fn, by show Q.funcs[b.fn]? = _; rw [hbf]; exact hf, hr⟩)
/-- the rest of a function's code, and the return -/
theorem lift_rest {D : Nat → Prop} {f : FuncId} {fn : Func} {c : Code} {b b₀ : Frame} {a a₀ : Act} {ops₀ : Array Oper} {i₀ : Nat} {rest₀ : List Nat} {k₀ : List Item} {cw : List Frame} {w : World} {Ψ : Value → World → Prop} (hbf : b.fn = f) (hf : TryQ.prog.funcs[f]? = some fn) (hb : b.kind = .normal) (ha : a.defers = []) (hc : okCode Tryz.prog c = true)
    (hb₀ : b₀.kind = .normal) (ha₀ : a₀.defers = []) (ho₀ : okOps Tryz.prog ops₀ = true) (hk₀ : ∀ x ∈ k₀, okItem Tryz.prog x = true)
    (hex : ∃ v, Rel (veil D) w v) (hwp : ∀ v, Rel (veil D) w v → c.wp TryQ.prog (bodyPost TryQ.prog fn fun e v' => ∃ val, e = .returned val ∧ Ψ val v') a v) :
    Will Tryz.prog (DClean (veil D)) (fun g w' => ∃ val v', g = G (after b₀ a₀ ops₀ i₀ rest₀ k₀ val) cw ∧ Rel (veil D) w' v' ∧ Stays w w' v' ∧ Ψ val v') (G (b.at a [.code c]) (b₀.at a₀ (.inRegion ops₀ (i₀ :: rest₀) :: k₀) :: cw)) w := by
  have tc : ∀ a', a'.defers = [] → ∀ l, TameF Tryz.prog (b₀.at a' (.inRegion ops₀ l :: k₀)) := fun a' ha' l => tame_at hb₀ ha' (fun x hx => by rcases List.mem_cons.1 hx with rfl | hx; exact ho₀; exact hk₀ x hx)
  refine will_mono ?_ (lift (fair D) (cw := cw) (S := fun fr frs v => ∃ val, fr = after b₀ a₀ ops₀ i₀ rest₀ k₀ val ∧ frs = [] ∧ Ψ val v) (fr := b.at a [.code c]) (frs := [b₀.at a₀ (.inRegion ops₀ (i₀ :: rest₀) :: k₀)]) (w := w)
    (tame_at hb ha (fun x hx => by rw [List.mem_singleton.1 hx]; exact hc)) (fun f hf => by rw [List.mem_singleton.1 hf]; exact tc a₀ ha₀ _) hex (fun v hv => ?_))
  · rintro g w' ⟨fr, frs, v, rfl, hr, hs, val, rfl, rfl, hΨ⟩
    exact ⟨val, v, rfl, hr, hs, hΨ⟩
  · obtain ⟨e, a', v', hQ, hA⟩ := hwp v hv b [] (b₀.at a₀ (.inRegion ops₀ (i₀ :: rest₀) :: k₀) :: [trap FQ.size])
    have fin : ∀ val, (b₀.at a₀ (.inRegion ops₀ (i₀ :: rest₀) :: k₀)).finish val = after b₀ a₀ ops₀ i₀ rest₀ k₀ val := fun val => Frame.finish_at _ _ _ _ _ _ _
    have key : ∀ val, (∃ todo, Steps TryQ.prog (lone (b.at a [.code c]) (b₀.at a₀ (.inRegion ops₀ (i₀ :: rest₀) :: k₀) :: [trap FQ.size]) v) (lone { b.at a' todo with mode := .returning } (b₀.at a₀ (.inRegion ops₀ (i₀ :: rest₀) :: k₀) :: [trap FQ.size]) v')) → a'.defers = [] → (results fn a'.tmps).run TryQ.prog v' = .ok val v' → Ψ val v' →
        ∃ n fr' frs' v'', runN (strip Tryz.prog FQ) n (lone (b.at a [.code c]) ([b₀.at a₀ (.inRegion ops₀ (i₀ :: rest₀) :: k₀)] ++ [trap FQ.size]) v) = .next (lone fr' (frs' ++ [trap FQ.size]) v'') ∧ TameF Tryz.prog fr' ∧ ∃ val, fr' = after b₀ a₀ ops₀ i₀ rest₀ k₀ val ∧ frs' = [] ∧ Ψ val v'' := by
      rintro val ⟨todo, hs⟩ hd hr hΨ
      obtain ⟨n, hn⟩ := hs.trans (leave_steps (todo := todo) hbf hb hf hd hr)
      rw [fin, TryQ.prog_eq] at hn
      exact ⟨n, _, [], v', hn, tc _ (put_nil _ _ _ ha₀) _, val, rfl, rfl, hΨ⟩
    cases e with
    | normal =>
      obtain ⟨hd, x, hr, val, hv', hΨ⟩ := hQ
      cases hv'
      exact key _ ⟨[], hA.trans (.one step_end)⟩ hd hr hΨ
    | ret =>
      obtain ⟨hd, x, hr, val, hv', hΨ⟩ := hQ
      cases hv'
      exact key _ hA hd hr hΨ
    | panic ch => obtain ⟨_, _, h, _⟩ := hQ; cases h
    | outgrown => obtain ⟨_, h, _⟩ := hQ; cases h
    | _ => exact hQ.elim
end Go.Mark
