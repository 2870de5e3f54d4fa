import PyProof.Rows.All
import Wide.All
import OpenK.AllK
import Wide.FinOn
import PyProof.EqAt
import PyProof.EqKinds
import PyProof.TupleCall
import PyProof.FString
import PyProof.FString4
import KE.KFromBytes
import KE.KExcIs
import HandS.ForMost
import HandS.Exc
import HandS.ExcOwn
import HandS.ExcInit
import HandS.ExcValue
import HandS.ExcField
import HandS.IsInst
import HandS.FStr
import HandS.FStrTup
import HandS.ClsMeth
import HandS.Wide
import HandS.Evl
import HandS.Zip
import HandS.Walk
import HandS.ExcIs
import PySem.Challenge.RW_swappedhot_k68_errors_apart
set_option Elab.async false
set_option linter.all false
set_option maxRecDepth 100000
set_option maxHeartbeats 2000000
namespace Cm
open PySem PySem.Spec PyProof.Rows L2 Evl

/-- a def of the text, with its promise -/
structure Df (P : Program) (w : World) (K : PySem.W.Frag) (mg : Str → Option Value) (base : Heap) (k : Nat) (x : Str) (ps : List Str) (sp : Sp) where
  f : Addr
  fd : FuncData
  G : FnOk P w K mg base CX0 k f fd ps sp
  m : mg x = some (.ref f)
  kp : PySem.W.keepIn K (.ref f) = true
  b : Binds K fd ps []
/-- a def of the text as it stands -/
structure Bd (K : PySem.W.Frag) (mg : Str → Option Value) (x : Str) (st : Stmt) (ps : List Str) where
  f : Addr
  fd : FuncData
  F : Fun K x x st f fd
  m : mg x = some (.ref f)
  b : Binds K fd ps []
def Bd.df {P : Program} {w : World} {K : PySem.W.Frag} {mg : Str → Option Value} {base : Heap} {k : Nat} {x : Str} {st : Stmt} {ps : List Str} {sp : Sp} (B : Bd K mg x st ps) (G : FnOk P w K mg base CX0 k B.f B.fd ps sp) : Df P w K mg base k x ps sp :=
  ⟨B.f, B.fd, G, B.m, B.F.kp, B.b⟩

/-- all but the object at a is as it was -/
def SmB (a : Addr) (H H' : Hp) : Prop := ∀ b o, b ≠ a → H b = some o → H' b = some o
theorem SmB.refl (a : Addr) (H : Hp) : SmB a H H := fun _ _ _ h => h
theorem SmB.trans {a : Addr} {H H1 H2 : Hp} (x : SmB a H H1) (y : SmB a H1 H2) : SmB a H H2 := fun b o n h => y b o n (x b o n h)
theorem SmB.of {a : Addr} {H H' : Hp} (x : Ex H H') : SmB a H H' := fun b o _ h => x b o h
theorem SmB.upd {a : Addr} {H : Hp} {o : HO} : SmB a H (upd H a o) := fun b u n h => by
  rw [upd_ne n]
  exact h
theorem SmB.l {K : PySem.W.Frag} {H H' : Hp} {a p : Addr} {xs : List V} (e : SmB p H H') (n : a ≠ p) (h : SqL K H a xs) : SqL K H' a xs := by
  rcases h with (h | ⟨o, h⟩) | h
  · exact .inl (.inl (e _ _ n h))
  · exact .inl (.inr ⟨o, e _ _ n h⟩)
  · exact .inr h
theorem SmB.t {K : PySem.W.Frag} {H H' : Hp} {a p : Addr} {xs : List V} (e : SmB p H H') (n : a ≠ p) (h : SqT K H a xs) : SqT K H' a xs := by
  rcases h with (h | ⟨o, h⟩) | h
  · exact .inl (.inl (e _ _ n h))
  · exact .inl (.inr ⟨o, e _ _ n h⟩)
  · exact .inr h

/-! ### the pool of a law's script -/
structure PoolS (M : Addr → Prop) (H : Hp) (p : Addr) (g s : Addr) (gs ss : List Int) (cur cnt : Int) : Prop where
  obj : H p = some (.lst [.ref g, .ref s, .int cur, .int cnt])
  great : H g = some (.lst (gs.map V.int))
  small : H s = some (.lst (ss.map V.int))
  gpos : ∀ x ∈ gs, 0 < x
  srng : ∀ x ∈ ss, 0 ≤ x ∧ x < 1000003
  cur0 : 0 ≤ cur
  cnt0 : 0 ≤ cnt
  mg : ¬ M g
  ms : ¬ M s
def PoolAt (M : Addr → Prop) (H : Hp) (p : Addr) : Prop := ∃ g s gs ss cur cnt, PoolS M H p g s gs ss cur cnt
theorem ref_ne_ints {a : Addr} {vs : List V} {ns : List Int} : (HO.lst (.ref a :: vs)) ≠ HO.lst (ns.map V.int) := fun z => by
  cases ns with
  | nil => cases z
  | cons n r => cases z
section
variable {M N : Addr → Prop} {H H' : Hp} {p g s : Addr} {gs ss : List Int} {cur cnt : Int}
theorem PoolS.ng (P : PoolS M H p g s gs ss cur cnt) : g ≠ p := (ne_of P.obj P.great ref_ne_ints).symm
theorem PoolS.ns (P : PoolS M H p g s gs ss cur cnt) : s ≠ p := (ne_of P.obj P.small ref_ne_ints).symm
theorem PoolS.ex (P : PoolS M H p g s gs ss cur cnt) (e : Ex H H') : PoolS M H' p g s gs ss cur cnt :=
  ⟨e _ _ P.obj, e _ _ P.great, e _ _ P.small, P.gpos, P.srng, P.cur0, P.cnt0, P.mg, P.ms⟩
theorem PoolAt.ex (P : PoolAt M H p) (e : Ex H H') : PoolAt M H' p := by
  obtain ⟨g, s, gs, ss, cur, cnt, P⟩ := P
  exact ⟨g, s, gs, ss, cur, cnt, P.ex e⟩
theorem PoolAt.some (P : PoolAt M H p) : ∃ o, H p = some o := by
  obtain ⟨g, s, gs, ss, cur, cnt, P⟩ := P
  exact ⟨_, P.obj⟩
theorem PoolAt.weak (P : PoolAt M H p) (h : ∀ a, N a → M a) : PoolAt N H p := by
  obtain ⟨g, s, gs, ss, cur, cnt, P⟩ := P
  exact ⟨g, s, gs, ss, cur, cnt, P.obj, P.great, P.small, P.gpos, P.srng, P.cur0, P.cnt0, fun z => P.mg (h _ z), fun z => P.ms (h _ z)⟩
/-- what is not there is no part of the pool -/
theorem PoolAt.addM (P : PoolAt M H p) (h : ∀ a, N a → M a ∨ H a = none) : PoolAt N H p := by
  obtain ⟨g, s, gs, ss, cur, cnt, P⟩ := P
  refine ⟨g, s, gs, ss, cur, cnt, P.obj, P.great, P.small, P.gpos, P.srng, P.cur0, P.cnt0, fun z => (h _ z).elim P.mg fun q => ?_, fun z => (h _ z).elim P.ms fun q => ?_⟩
  · rw [P.great] at q
    cases q
  · rw [P.small] at q
    cases q
/-- a change at M leaves the pool -/
theorem PoolAt.upd (P : PoolAt M H p) {a : Addr} {o : HO} (ha : M a) (hp : p ≠ a) : PoolAt M (upd H a o) p := by
  obtain ⟨g, s, gs, ss, cur, cnt, P⟩ := P
  refine ⟨g, s, gs, ss, cur, cnt, by rw [upd_ne hp]; exact P.obj, ?_, ?_, P.gpos, P.srng, P.cur0, P.cnt0, P.mg, P.ms⟩
  · rw [upd_ne fun z => P.mg (by rw [z]; exact ha)]
    exact P.great
  · rw [upd_ne fun z => P.ms (by rw [z]; exact ha)]
    exact P.small
end
/-- what M names is there -/
def Live (M : Addr → Prop) (H : Hp) : Prop := ∀ a, M a → H a ≠ none
theorem Live.ex {M : Addr → Prop} {H H' : Hp} (l : Live M H) (e : Ex H H') : Live M H' := fun a z q => by
  cases h1 : H a with
  | none => exact l a z h1
  | some o =>
    rw [e _ _ h1] at q
    cases q
theorem Live.smb {M : Addr → Prop} {H H' : Hp} {p : Addr} (l : Live M H) (e : SmB p H H') (hp : H' p ≠ none) : Live M H' := fun a z q => by
  by_cases n : a = p
  · rw [n] at q
    exact hp q
  · cases h1 : H a with
    | none => exact l a z h1
    | some o =>
      rw [e _ _ n h1] at q
      cases q

def absI (x : Int) : Int := if x < 0 then -x else x
theorem given_ints (n : Nat) (f : Nat → Bool) (g : Nat → Int) : given n f (fun i => V.int (g i)) = (((List.range n).filter f).map g).map V.int := by
  unfold given
  rw [List.map_map]
  rfl
theorem given_mem {n : Nat} {f : Nat → Bool} {g : Nat → Int} {x : Int} (h : x ∈ ((List.range n).filter f).map g) : ∃ i, f i = true ∧ g i = x := by
  obtain ⟨i, hi, e⟩ := List.mem_map.mp h
  exact ⟨i, (List.mem_filter.mp hi).2, e⟩
theorem map_getD {ns : List Int} {i : Nat} {x : V} (h : (ns.map V.int)[i]? = some x) : x = .int (ns.getD i 0) := by
  rw [List.getElem?_map] at h
  cases e : ns[i]? with
  | none =>
    rw [e] at h
    cases h
  | some z =>
    rw [e] at h
    have h' := Option.some.inj h
    rw [← h']
    simp [List.getD, e]
theorem given_all (ns : List Int) : given (ns.map V.int).length (fun _ => true) (fun i => V.int (ns.getD i 0)) = ns.map V.int := by
  unfold given
  rw [List.length_map, List.filter_eq_self.mpr (fun _ _ => rfl)]
  apply List.ext_getElem?
  intro i
  by_cases h : i < ns.length
  · simp [List.getD, h]
  · simp [h, Nat.le_of_not_lt h]
theorem cut_ints (ns : List Int) (lo hi : Option Int) : ∃ cs : List Int, cutV (ns.map V.int) lo hi = cs.map V.int ∧ cs.length ≤ ns.length := by
  refine ⟨(ns.drop (HT.sIx ns.length 0 lo)).take (HT.sIx ns.length ns.length hi - HT.sIx ns.length 0 lo), ?_, ?_⟩
  · unfold cutV
    rw [List.length_map, List.map_take, List.map_drop]
  · rw [List.length_take, List.length_drop]
    omega
/-- xs[i] = e, e a new list -/
theorem s_setLL {σ : L2.St} {H : Hp} {D : Ends} {ta tb te : TE} {l : Addr} {xs ys : List V} {j : Nat} (hl : H l = some (.lst xs)) (h : EvL te σ H ys) (ho : Ev ta σ H (.ref l)) (hi : Ev tb σ H (.int (j : Int))) (hj : j < xs.length)
    (k : ∀ q H1, H q = none → Ex H H1 → H1 q = some (.lst ys) → D.nx σ (upd H1 l (.lst (xs.set j (.ref q))))) : tAsg te (gSub ta tb rSetL) D σ H := h H (Ex.refl H) _ fun q H1 hq e1 h1 => ho H1 e1 _ fun H2 e2 => hi H2 (e1.trans e2) _ fun H3 e3 =>
  ⟨l, xs, (j : Int), j, rfl, rfl, ((e1.trans e2).trans e3) l _ hl, ixN_nat hj, k q H3 hq ((e1.trans e2).trans e3) (e3 _ _ (e2 _ _ h1))⟩
theorem q_setLL {σ : L2.St} {H : Hp} {D : Ends} {tz : TS} {ta tb te : TE} {l : Addr} {xs ys : List V} {j : Nat} (hl : H l = some (.lst xs)) (h : EvL te σ H ys) (ho : Ev ta σ H (.ref l)) (hi : Ev tb σ H (.int (j : Int))) (hj : j < xs.length)
    (k : ∀ q H1, H q = none → Ex H H1 → H1 q = some (.lst ys) → tz D σ (upd H1 l (.lst (xs.set j (.ref q))))) : tSeq (tAsg te (gSub ta tb rSetL)) tz D σ H := s_setLL (D := { D with nx := tz D }) hl h ho hi hj k
theorem cut1 (xs : List V) : cutV xs (some 1) none = xs.drop 1 := by
  unfold cutV
  rw [show HT.sIx xs.length 0 (some 1) = min 1 xs.length from HT.sIx_nat xs.length 0 1, HT.sIx_none]
  cases xs with
  | nil => rfl
  | cons x r =>
    rw [show min 1 (x :: r).length = 1 by
      rw [List.length_cons]
      omega]
    show (List.take ((x :: r).length - 1) r) = r
    rw [List.length_cons, Nat.add_sub_cancel]
    exact List.take_length
theorem ev_int {K : PySem.W.Frag} {σ : L2.St} {H : Hp} {te : TE} {x : Int} (h : Ev te σ H (.int x)) : Ev (tCB (fun xs H Q => (∃ i, xs = [V.int i] ∧ Q (.int i) H) ∨ ∃ k, xs = [V.bl k] ∧ Q (.int (if k then 1 else 0)) H) (tCons te tNil)) σ H (.int x) :=
  ev_cb (ea_cons h ea_nil) fun H2 _ Q q => .inl ⟨_, rfl, q H2 (Ex.refl H2)⟩
theorem ev_intb {K : PySem.W.Frag} {σ : L2.St} {H : Hp} {te : TE} {b : Bool} (h : Ev te σ H (.bl b)) : Ev (tCB (fun xs H Q => (∃ i, xs = [V.int i] ∧ Q (.int i) H) ∨ ∃ k, xs = [V.bl k] ∧ Q (.int (if k then 1 else 0)) H) (tCons te tNil)) σ H (.int (if b then 1 else 0)) :=
  ev_cb (ea_cons h ea_nil) fun H2 _ Q q => .inr ⟨_, rfl, q H2 (Ex.refl H2)⟩
theorem ev_lenL {K : PySem.W.Frag} {σ : L2.St} {H : Hp} {te : TE} {p : Addr} {xs : List V} (h : Ev te σ H (.ref p)) (hx : SqL K H p xs) : Ev (tCB (fun xs H Q => ∃ p ys, xs = [V.ref p] ∧ (SqL K H p ys ∨ SqT K H p ys) ∧ Q (.int ys.length) H) (tCons te tNil)) σ H (.int (xs.length : Int)) :=
  Evl.ev_len h hx
theorem ev_lenT {K : PySem.W.Frag} {σ : L2.St} {H : Hp} {te : TE} {p : Addr} {xs : List V} (h : Ev te σ H (.ref p)) (hx : SqT K H p xs) : Ev (tCB (fun xs H Q => ∃ p ys, xs = [V.ref p] ∧ (SqL K H p ys ∨ SqT K H p ys) ∧ Q (.int ys.length) H) (tCons te tNil)) σ H (.int (xs.length : Int)) :=
  fun H1 e Q q => h H1 e _ fun H2 e2 => ⟨p, xs, rfl, .inr (ex_t (e.trans e2) hx), q H2 e2⟩
theorem lg {m : Int} (h : m.natAbs < 2 ^ 200) : m.natAbs.log2 < 9000 := Nat.lt_trans (PySem.Flt.log2_lt_of (by decide) h) (by decide)
theorem lgs {m : Int} (h : m.natAbs < 2 ^ 40) : m.natAbs.log2 < 9000 := Nat.lt_trans (PySem.Flt.log2_lt_of (by decide) h) (by decide)
theorem lt40 {n : Nat} (h : n < 1099511627776) : n < 2 ^ 40 := Nat.lt_of_lt_of_le h (by decide)
/-! ### names -/
structure IsName (z : Str) : Prop where
  lo : 1 ≤ z.length
  hi : z.length ≤ 8
  az : ∀ c ∈ z.cps.toList, 97 ≤ c ∧ c ≤ 122
abbrev AZ : Str := "abcdefghijklmnopqrstuvwxyz"
theorem az_at : ∀ i : Nat, i < 26 → AZ.cps.toList[i]? = some (97 + i) := by decide +kernel
theorem az_atI {i : Int} (h0 : 0 ≤ i) (h1 : i < 26) : ∃ c, atI AZ.cps.toList i = some c ∧ 97 ≤ c ∧ c ≤ 122 := by
  refine ⟨97 + i.toNat, ?_, by omega, by omega⟩
  have z := atI_nat (az_at i.toNat (by omega))
  rw [Int.toNat_of_nonneg h0] at z
  exact z
theorem az_len : AZ.length ≤ sizeLine := by decide +kernel
theorem one_len (c : Nat) : (⟨#[c]⟩ : Str).length = 1 := rfl
theorem name_add {z : Str} {c : Nat} (h : ∀ d ∈ z.cps.toList, 97 ≤ d ∧ d ≤ 122) (hc : 97 ≤ c ∧ c ≤ 122) : ∀ d ∈ (z ++ (⟨#[c]⟩ : Str)).cps.toList, 97 ≤ d ∧ d ≤ 122 := by
  intro d hd
  have hd : d ∈ (z.cps ++ #[c]).toList := hd
  rw [Array.toList_append] at hd
  rcases List.mem_append.mp hd with e | e
  · exact h d e
  · have e' : d = c := by simpa using e
    rw [e']
    exact hc
theorem flat_strs (ts : List Str) : (ts.map V.str).all flatV = true := by
  rw [List.all_map]
  exact List.all_eq_true.mpr fun _ _ => rfl
end Cm
set_option Elab.async false
set_option linter.all false
set_option maxRecDepth 100000
set_option maxHeartbeats 2000000
namespace Cm
open PySem PySem.Spec PyProof.Rows L2 Evl

/-- data at v in H, nested at most n deep, none of it at M -/
def Rp (M : Addr → Prop) (H : Hp) : Nat → V → PyData → Prop
  | _, .non, .none => True
  | _, .bl b, .bool c => b = c
  | _, .int i, .int j => i = j
  | _, .str x, .str y => x = y
  | n + 1, .ref a, .list ds => ∃ xs, H a = some (.lst xs) ∧ xs.length ≤ 1000 ∧ Paired (Rp M H n) xs ds ∧ ¬ M a
  | n + 1, .ref a, .tuple ds => ∃ xs, H a = some (.tup xs) ∧ xs.length ≤ 1000 ∧ Paired (Rp M H n) xs ds ∧ ¬ M a
  | _, _, _ => False
abbrev M0 : Addr → Prop := fun _ => False
/-- the heaps agree outside M -/
def ExM (M : Addr → Prop) (H H' : Hp) : Prop := ∀ a o, ¬ M a → H a = some o → H' a = some o
theorem ExM.refl (M : Addr → Prop) (H : Hp) : ExM M H H := fun _ _ _ h => h
theorem ExM.trans {M : Addr → Prop} {H H1 H2 : Hp} (a : ExM M H H1) (b : ExM M H1 H2) : ExM M H H2 := fun x o n h => b x o n (a x o n h)
theorem ExM.of {M : Addr → Prop} {H H' : Hp} (e : Ex H H') : ExM M H H' := fun a o _ h => e a o h
theorem ExM.upd {M : Addr → Prop} {H : Hp} {p : Addr} {o : HO} (h : M p) : ExM M H (upd H p o) := fun a u n e => by
  rw [upd_ne (fun z => n (by rw [z]; exact h))]
  exact e
theorem Rp.exM {M N : Addr → Prop} {H H' : Hp} (hN : ∀ a, N a → M a) (e : ExM M H H') : ∀ {n : Nat} {v : V} {d : PyData}, Rp M H n v d → Rp N H' n v d := by
  intro n
  induction n with
  | zero =>
    intro v d h
    cases v <;> cases d <;> first
      | exact h
      | (exfalso; exact h)
  | succ n ih =>
    intro v d h
    cases v <;> cases d <;> first
      | exact h
      | (exfalso; exact h)
      | (obtain ⟨xs, h1, h2, h3, h4⟩ := h
         exact ⟨xs, e _ _ h4 h1, h2, Paired.mapP h3 fun a b z => ih z, fun z => h4 (hN _ z)⟩)
theorem Rp.ex {M : Addr → Prop} {H H' : Hp} (e : Ex H H') {n : Nat} {v : V} {d : PyData} (h : Rp M H n v d) : Rp M H' n v d := h.exM (fun _ z => z) (ExM.of e)
theorem Rp.weak {M N : Addr → Prop} {H : Hp} (hN : ∀ a, N a → M a) {n : Nat} {v : V} {d : PyData} (h : Rp M H n v d) : Rp N H n v d := h.exM hN (ExM.refl _ _)
theorem Rp.w0 {M : Addr → Prop} {H : Hp} {n : Nat} {v : V} {d : PyData} (h : Rp M H n v d) : Rp M0 H n v d := h.weak fun _ z => z.elim
/-- what is not there is not part of it -/
theorem Rp.add {M : Addr → Prop} {H : Hp} {p : Addr} (hp : H p = none) : ∀ {n : Nat} {v : V} {d : PyData}, Rp M H n v d → Rp (fun a => M a ∨ a = p) H n v d := by
  intro n
  induction n with
  | zero =>
    intro v d h
    cases v <;> cases d <;> first
      | exact h
      | (exfalso; exact h)
  | succ n ih =>
    intro v d h
    cases v <;> cases d <;> first
      | exact h
      | (exfalso; exact h)
      | (obtain ⟨xs, h1, h2, h3, h4⟩ := h
         exact ⟨xs, h1, h2, Paired.mapP h3 fun a b z => ih z, fun z => z.elim h4 fun q => by
           rw [q, hp] at h1
           cases h1⟩)
theorem Rp.up {M : Addr → Prop} {H : Hp} : ∀ {n : Nat} {v : V} {d : PyData}, Rp M H n v d → Rp M H (n + 1) v d := by
  intro n
  induction n with
  | zero =>
    intro v d h
    cases v <;> cases d <;> first
      | exact h
      | (exfalso; exact h)
  | succ n ih =>
    intro v d h
    cases v <;> cases d <;> first
      | exact h
      | (exfalso; exact h)
      | (obtain ⟨xs, h1, h2, h3, h4⟩ := h
         exact ⟨xs, h1, h2, Paired.mapP h3 fun a b z => ih z, h4⟩)
theorem Rp.int {M : Addr → Prop} {H : Hp} {n : Nat} {i : Int} : Rp M H n (.int i) (.int i) := by
  cases n <;> exact (rfl : i = i)
theorem Rp.str {M : Addr → Prop} {H : Hp} {n : Nat} {i : Str} : Rp M H n (.str i) (.str i) := by
  cases n <;> exact (rfl : i = i)
theorem Rp.bl {M : Addr → Prop} {H : Hp} {n : Nat} {i : Bool} : Rp M H n (.bl i) (.bool i) := by
  cases n <;> exact (rfl : i = i)
theorem Rp.non {M : Addr → Prop} {H : Hp} {n : Nat} : Rp M H n .non .none := by
  cases n <;> exact trivial
def tyD : PyData → String
  | .none => "NoneType"
  | .bool _ => "bool"
  | .int _ => "int"
  | .str _ => "str"
  | .list _ => "list"
  | .tuple _ => "tuple"
  | .dict _ => "dict"
theorem Rp.ty {M : Addr → Prop} {K : PySem.W.Frag} {H : Hp} {n : Nat} {v : V} {d : PyData} (h : Rp M H n v d) : TyX K H v (.type (tyD d)) := by
  cases n <;> cases v <;> cases d <;> first
    | (exfalso; exact h)
    | exact .base (.non)
    | exact .base (.bl _)
    | exact .base (.int _)
    | exact .base (.str _)
    | (obtain ⟨xs, h1, _⟩ := h
       exact .base (.lst h1))
    | (obtain ⟨xs, h1, _⟩ := h
       exact .base (.tup h1))
/-- isinstance by the kind of data -/
def isA (T : String) : PyData → Bool
  | .none => T == "NoneType"
  | .bool _ => T == "bool" || T == "int"
  | .int _ => T == "int"
  | .str _ => T == "str"
  | .list _ => T == "list"
  | .tuple _ => T == "tuple"
  | .dict _ => T == "dict"
theorem kit_isA {T : String} (hT : T = "tuple" ∨ T = "list" ∨ T = "bool" ∨ T = "int" ∨ T = "str" ∨ T = "dict") (d : PyData) : kitB (tyD d) T = some (isA T d) := by
  rcases hT with rfl | rfl | rfl | rfl | rfl | rfl <;> cases d <;> (show kitB _ _ = some _) <;> (simp only [tyD, isA]) <;> decide +kernel
theorem ev_isi {M : Addr → Prop} {K : PySem.W.Frag} {σ : L2.St} {H : Hp} {te : TE} {v : V} {n : Nat} {d : PyData} {T : String} (h : Ev te σ H v) (r : Rp M H n v d) (hT : T = "tuple" ∨ T = "list" ∨ T = "bool" ∨ T = "int" ∨ T = "str" ∨ T = "dict") :
    Ev (tCB (rIsi K) (tCons te (tCons (tC (.ty T)) tNil))) σ H (.bl (isA T d)) := fun H1 e Q q =>
  h H1 e _ fun H2 e2 => ⟨v, .ty T, .type (tyD d), .type T, isA T d, rfl, .ty T, (r.ex (e.trans e2)).ty, kit_ty (kit_isA hT d), q H2 e2⟩
theorem walk_zipT {K : PySem.W.Frag} {a b : Addr} {xs ys : List V} {n : Nat} (hn : n = min xs.length ys.length) : Walk (RZ.ItzT K a b) n (fun H => SqT K H a xs ∧ SqT K H b ys) (YPair (fun i => xs[i]?) (fun i => ys[i]?)) := by
  subst hn
  refine ⟨fun i _ hi q => ?_, fun _ q => ⟨xs, ys, q.1, q.2, by omega⟩, fun i H v H' _ q y => ?_⟩
  · have h1 : i < xs.length := by omega
    have h2 : i < ys.length := by omega
    exact ⟨xs, ys, xs[i], ys[i], q.1, q.2, by simp [h1], by simp [h2]⟩
  · obtain ⟨T, x, z, h1, h2, h3, h4, h5⟩ := y
    exact ⟨T, x, z, h1, h2, h3, h4 xs q.1, h5 ys q.2⟩
theorem pair_at {α β : Type} {F : α → β → Prop} : ∀ {l : List α} {m : List β} {i : Nat} {a : α}, Paired F l m → l[i]? = some a → ∃ b, m[i]? = some b ∧ F a b
  | _, _, _, _, .nil, h => by simp at h
  | _, _, 0, _, .cons r _, h => by
    have e := Option.some.inj h
    subst e
    exact ⟨_, rfl, r⟩
  | _, _, i + 1, _, .cons _ t, h => pair_at (i := i) t h
theorem pair_len {α β : Type} {F : α → β → Prop} : ∀ {l : List α} {m : List β}, Paired F l m → l.length = m.length
  | _, _, .nil => rfl
  | _, _, .cons _ t => congrArg (· + 1) (pair_len t)
theorem yes_if {A B : Hp → Prop} {σ : L2.St} {H : Hp} (h : A H) : tYes σ H fun b H3 => if b = true then A H3 else B H3 := by
  show (if true = true then A H else B H)
  rw [if_pos rfl]
  exact h
theorem all_yes (n : Nat) : (List.replicate n true).all id = true := by
  induction n with
  | zero => rfl
  | succ n ih => rw [List.replicate_succ, List.all_cons, ih] <;> rfl
end Cm
set_option Elab.async false
set_option linter.all false
set_option maxRecDepth 100000
set_option maxHeartbeats 4000000
namespace Cm
open PySem PySem.Spec PyProof.Rows L2 Evl

/-! ### own exceptions with an __init__ that calls that of their base -/
/-- the base class S, by the name x: its __init__ is that of ValueError -/
structure Sup (K : PySem.W.Frag) (mg : Str → Option Value) (x : Str) (S : Addr) : Prop where
  g : mg x = some (.ref S)
  rd : ClX.CRead K S (.type "type")
  vv : PySem.W.findCls K (.ref S) (.type "type") "__init__" = some (.val (.builtin "ValueError.__init__"))
section
variable {X : Cx} {e : Expr} {es : List Expr} {te : TE} {ta : TA} {p1 p2 p pos : Pos}
theorem pe_sinit {x : Str} {S : Addr} {pl : Sem Bool} (hg : Gl X x) (s : Sup X.K X.mg x S) (ha : PA X (e :: es) ta)
    (hc : eval (.Call (.Attribute (.Name x p1) "__init__" p2) (e :: es) [] pos) X.env = (do
      let ov ← eval (.Name x p1) X.env
      standAt p2.atName
      let (f, first) ← holding [ov] (getMethod ov "__init__" pl)
      callWith pos f first (backTo pos (starEach (e :: es) X.env)) (backToKw pos (keywordEach [] X.env))) := by rfl)
    (he : starEach (e :: es) X.env = (false, eval e X.env) :: starEach es X.env := by rfl) (hpl : (backTo pos (starEach es X.env)).any (·.1) = false := by rfl) (hdb : (x == ("__debug__" : Str)) = false := by decide) :
    PE X (.Call (.Attribute (.Name x p1) "__init__" p2) (e :: es) [] pos) (tVeI X.K ta) := by
  refine ⟨fun pins sh σ H Q I h => ?_⟩
  refine PySem.W.methodCall_KW (ld_glob I hg s.g ?_ hdb) hc
  refine PySem.W.method_cls I.kIn s.rd.ga (PySem.W.cls_value I.kIn s.rd.rd s.vv (by decide +kernel) ?_)
  show wpAny _ _ (callWith pos (Value.builtin "ValueError.__init__") [] (backTo pos (starEach (e :: es) X.env)) []) _ _ _
  refine PyProof.Rows.callWith_method1 (thn (ha.run pos pins _ σ H _ (I.tok _) h) fun us s1 ⟨vs, H1, I1, r1, a, C, ws, ev, hl, T, ea, q⟩ => ?_) he hpl
  subst ev
  cases r1 with
  | @cons _ u0 _ ur ra rw' =>
    obtain rfl : u0 = Value.ref a := ra
    have hlen : ur.length ≤ sizeLine := by
      rw [← Paired.length rw', sizeLine_eq]
      omega
    exact oinit_ok T I1 ea hlen fun s' J => ⟨.non, H1, J, rfl, q⟩
/-- C(e, ..) as a value: the exception stands at a -/
def tMkV (C : Addr) (sp : Sp) (dvs : List V) (ta : TA) : TE := fun σ H Q => ta σ H fun vs H1 => vs.length ≤ 1000 ∧ ∀ a, H1 a = none → sp (.ref a :: (vs ++ dvs)) (upd H1 a (exo a C none))
  (fun v H2 => v = .non ∧ Q (.ref a) H2) (fun _ _ _ => False)
theorem pe_mkx {CX : CXT} {x : Str} {C fI : Addr} {k : Nat} {fd : FuncData} {ps : List Str} {sp : Sp} {ds : List Value} {dvs : List V} (T : OexC X.K C) (iC : PySem.W.findIn X.K (.ref C) "__init__" = some (some (.ref fI))) (tI : PySem.W.typeIn X.K (.ref fI) = some (.type "function"))
    (F1 : FnOk X.prog X.w X.K X.mg X.base CX k fI fd ps sp) (hr : Room (k + 1) X.A) (hb : Binds X.K fd ps ds) (hd : Vals dvs ds) (hx : Passes CX X (fun _ _ _ => False)) (hg : Gl X x) (hm : X.mg x = some (.ref C)) (ha : PA X (e :: es) ta)
    (hdb : (x == ("__debug__" : Str)) = false := by decide) (he : starEach (e :: es) X.env = (false, eval e X.env) :: starEach es X.env := by rfl) (hpl : (backTo pos (starEach es X.env)).any (·.1) = false := by rfl) :
    PE X (.Call (.Name x p) (e :: es) [] pos) (tMkV C sp dvs ta) := by
  refine ⟨fun pins s σ H Q I h => ?_⟩
  obtain ⟨nm, q, N, bs, bm, sn, sub, ab, col, dd, k0, k1, k2, k3, k5, hC, hbm⟩ := T.cls
  refine wpAny_Call_Name_kw (ld_glob I hg hm ?_ hdb)
  refine PySem.W.callWith_K (h₀ := X.base) I.ok.mod.kin T.kC (thn (ha.run pos pins s σ H _ I h) fun us s1 ⟨vs, H1, I1, r1, hz, q1⟩ => ⟨I1.kIn, ?_⟩) he hpl
  show wpAny _ _ (call (.ref C) us) _ _ _
  obtain ⟨hp, g, dr, tk, os⟩ := s1
  have hsz : hp.objs.size ≤ hp.objs.size + 1 := Nat.le_succ _
  have hn : H1 (hp.objs.size + 1) = none := I1.hok.fresh hsz
  have hq := q1 (hp.objs.size + 1) hn
  have kk : ∀ b o, hp.get? b = some o → ((hp.push (PySem.W.kdv_tup us)).push (PySem.HandSPX.excO C hp.objs.size)).get? b = some o := fun b o e => Heap.get?_push_of_some _ (Heap.get?_push_of_some _ e)
  have hget : ((hp.push (PySem.W.kdv_tup us)).push (PySem.HandSPX.excO C hp.objs.size)).get? (hp.objs.size + 1) = some (PySem.HandSPX.excO C hp.objs.size) := by heap_get
  have I2 : Inv X pins σ (upd H1 (hp.objs.size + 1) (exo (hp.objs.size + 1) C none)) ⟨(hp.push (PySem.W.kdv_tup us)).push (PySem.HandSPX.excO C hp.objs.size), g, dr, tk, os⟩ :=
    I1.laid (t' := tk) (a := hp.objs.size + 1) (o := exo (hp.objs.size + 1) C none) (h' := (hp.push (PySem.W.kdv_tup us)).push (PySem.HandSPX.excO C hp.objs.size)) kk hsz (exo_ok hget)
  have r2 : Vals (V.ref (hp.objs.size + 1) :: (vs ++ dvs)) (Value.ref (hp.objs.size + 1) :: (us ++ ds)) := .cons rfl (r1.append hd)
  have hl : (Value.ref (hp.objs.size + 1) :: us ++ ds).length = ps.length := by
    have e := r2.length
    rw [F1.len _ _ _ _ hq] at e
    exact e.symm
  have hus : us.length ≤ sizeLine := by
    rw [← Paired.length r1, sizeLine_eq]
    omega
  refine wpAny_call (PySem.HandSPX.call_own F.excBase_ValueError (fun Y => PySem.HandSPX.refsVE_contains Y bm hbm) (I1.kIn _ _ hC) (PySem.W.looks_findIn I1.kIn iC) (fun self => PySem.W.bind_fn I1.kIn self tI) hus
    (codeAny_mono (F1.run _ X.stack _ _ ⟨Value.ref (hp.objs.size + 1) :: us, []⟩ (Value.ref (hp.objs.size + 1) :: (us ++ ds)) _ _ (fun _ _ _ => False) (hr.make C us []) (I2.env0.make C us []) (hb _ (Value.ref (hp.objs.size + 1) :: us) I2.kIn hl) r2 hq) fun r s' hq' => ?_))
  cases r with
  | error er => exact hx pins σ _ _ er s' I2 hq'
  | ok fl =>
    cases fl with
    | ret u =>
      obtain ⟨v, H2, os2, bare2, un2, hok2, rv, ev, q2⟩ := hq'
      subst ev
      obtain ⟨h2, g2, d2, t2, os'⟩ := s'
      exact ⟨rv, .ref (hp.objs.size + 1), H2, I2.call' (ch := []) os2 un2 hok2 bare2 (fun b z => absurd z (by simp)), rfl, q2⟩
    | next => exact False.elim hq'
    | brk => exact False.elim hq'
    | cont => exact False.elim hq'
theorem pe_mkx0 {CX : CXT} {x : Str} {C fI : Addr} {k : Nat} {fd : FuncData} {ps : List Str} {sp : Sp} {ds : List Value} {dvs : List V} (T : OexC X.K C) (iC : PySem.W.findIn X.K (.ref C) "__init__" = some (some (.ref fI))) (tI : PySem.W.typeIn X.K (.ref fI) = some (.type "function"))
    (F1 : FnOk X.prog X.w X.K X.mg X.base CX k fI fd ps sp) (hr : Room (k + 1) X.A) (hb : Binds X.K fd ps ds) (hd : Vals dvs ds) (hx : Passes CX X (fun _ _ _ => False)) (hg : Gl X x) (hm : X.mg x = some (.ref C))
    (hdb : (x == ("__debug__" : Str)) = false := by decide) :
    PE X (.Call (.Name x p) [] [] pos) (tMkV C sp dvs tNil) := by
  refine ⟨fun pins s σ H Q I h => ?_⟩
  obtain ⟨nm, q, N, bs, bm, sn, sub, ab, col, dd, k0, k1, k2, k3, k5, hC, hbm⟩ := T.cls
  refine wpAny_Call_Name_kw (ld_glob I hg hm ?_ hdb)
  refine PySem.W.callWith_K0 I.kIn T.kC ?_
  show wpAny _ _ (call (.ref C) []) _ _ _
  obtain ⟨hz, q1⟩ := h
  obtain ⟨hp, g, dr, tk, os⟩ := s
  have r1 : Vals ([] : List V) ([] : List Value) := .nil
  have hsz : hp.objs.size ≤ hp.objs.size + 1 := Nat.le_succ _
  have hn : H (hp.objs.size + 1) = none := I.hok.fresh hsz
  have hq := q1 (hp.objs.size + 1) hn
  have kk : ∀ b o, hp.get? b = some o → ((hp.push (PySem.W.kdv_tup ([] : List Value))).push (PySem.HandSPX.excO C hp.objs.size)).get? b = some o := fun b o e => Heap.get?_push_of_some _ (Heap.get?_push_of_some _ e)
  have hget : ((hp.push (PySem.W.kdv_tup ([] : List Value))).push (PySem.HandSPX.excO C hp.objs.size)).get? (hp.objs.size + 1) = some (PySem.HandSPX.excO C hp.objs.size) := by heap_get
  have I2 : Inv X pins σ (upd H (hp.objs.size + 1) (exo (hp.objs.size + 1) C none)) ⟨(hp.push (PySem.W.kdv_tup ([] : List Value))).push (PySem.HandSPX.excO C hp.objs.size), g, dr, tk, os⟩ :=
    I.laid (t' := tk) (a := hp.objs.size + 1) (o := exo (hp.objs.size + 1) C none) (h' := (hp.push (PySem.W.kdv_tup ([] : List Value))).push (PySem.HandSPX.excO C hp.objs.size)) kk hsz (exo_ok hget)
  have r2 : Vals (V.ref (hp.objs.size + 1) :: (([] : List V) ++ dvs)) (Value.ref (hp.objs.size + 1) :: (([] : List Value) ++ ds)) := .cons rfl (r1.append hd)
  have hl : (Value.ref (hp.objs.size + 1) :: ([] : List Value) ++ ds).length = ps.length := by
    have e := r2.length
    rw [F1.len _ _ _ _ hq] at e
    exact e.symm
  have hus : ([] : List Value).length ≤ sizeLine := by
    exact Nat.zero_le _
  refine wpAny_call (PySem.HandSPX.call_own F.excBase_ValueError (fun Y => PySem.HandSPX.refsVE_contains Y bm hbm) (I.kIn _ _ hC) (PySem.W.looks_findIn I.kIn iC) (fun self => PySem.W.bind_fn I.kIn self tI) hus
    (codeAny_mono (F1.run _ X.stack _ _ ⟨Value.ref (hp.objs.size + 1) :: ([] : List Value), []⟩ (Value.ref (hp.objs.size + 1) :: (([] : List Value) ++ ds)) _ _ (fun _ _ _ => False) (hr.make C ([] : List Value) []) (I2.env0.make C ([] : List Value) []) (hb _ (Value.ref (hp.objs.size + 1) :: ([] : List Value)) I2.kIn hl) r2 hq) fun r s' hq' => ?_))
  cases r with
  | error er => exact hx pins σ _ _ er s' I2 hq'
  | ok fl =>
    cases fl with
    | ret u =>
      obtain ⟨v, H2, os2, bare2, un2, hok2, rv, ev, q2⟩ := hq'
      subst ev
      obtain ⟨h2, g2, d2, t2, os'⟩ := s'
      exact ⟨rv, .ref (hp.objs.size + 1), H2, I2.call' (ch := []) os2 un2 hok2 bare2 (fun b z => absurd z (by simp)), rfl, q2⟩
    | next => exact False.elim hq'
    | brk => exact False.elim hq'
    | cont => exact False.elim hq'
/-- X(), an own exception class without own __init__, as a value -/
structure Exc0 (K : PySem.W.Frag) (mg : Str → Option Value) (x : Str) (C : Addr) : Prop where
  q : PySem.W.excIn K C [.type "ValueError", .type "Exception", .type "BaseException", .type "object"] "ValueError.__new__" = true
  gC : mg x = some (.ref C)
  kC : PySem.W.keepIn K (.ref C) = true
theorem pe_exc0 {C : Addr} {x : Str} (E : Exc0 X.K X.mg x C) (hg : Gl X x := by rfl) (hdb : (x == ("__debug__" : Str)) = false := by decide) :
    PE X (.Call (.Name x p) [] [] pos) (fun _ H Q => ∀ a, H a = none → Q (.ref a) (upd H a (ExO (.ref C) a))) := by
  refine ⟨fun pins s σ H Q I h => ?_⟩
  refine wpAny_Call_Name_kw (ld_glob I hg E.gC ?_ hdb)
  refine PySem.W.callWith_K0 I.kIn E.kC ?_
  show wpAny _ _ (call (.ref C) []) _ _ _
  obtain ⟨bm, N, nm, qn, bs, hdct, sn, sub, ab, col, dd, k0, k1, k2, k3, k5, mN, hC, hN, hni, T⟩ := exc_obj I.kIn E.q
  refine wpAny_call_exc_subT PySem.F.excBase_ValueError T hC hN hni (fun h' a hm => ?_) (by show 0 ≤ sizeLine; exact Nat.zero_le _)
  have hn : H a = none := I.hok.gone hm.new
  obtain ⟨t, ht, _, _⟩ := hm.there
  exact ⟨.ref a, upd H a (ExO (.ref C) a), I.laidN hm.keeps hm.new hn (exO_ok ht ⟨rfl, rfl⟩ rfl rfl rfl (show 4 < 6 by decide)), rfl, h a hn⟩
/-- err.f, err an exception that stands in the heap -/
def tXat (K : PySem.W.Frag) (f : Str) (te : TE) : TE := fun σ H Q => te σ H fun x H1 => ∃ (a C d : Addr) (fs : List (Str × V)) (v : V), x = .ref a ∧ H1 a = some (exo a C (some d)) ∧ H1 d = some (exd d fs) ∧ fs.lookup f = some v ∧ XfC K C ∧ PySem.W.findIn K (.ref C) f = some none ∧ Q v H1
theorem pe_xat {n : Str} (he : PE X e te) (hb : attributeBase e n X.env (eval e X.env) = eval e X.env := by rfl) : PE X (.Attribute e n pos) (tXat X.K n te) := by
  refine ⟨fun pins s σ H Q I h => ?_⟩
  refine attr_of hb (thn (he.run pins s σ H _ I h) fun u s1 hh => ?_)
  obtain ⟨x, H1, I1, rx, a, C, dd, fs, v, ex, ea, ed, l, T, hno, q⟩ := hh
  subst ex
  obtain rfl : u = Value.ref a := rx
  obtain ⟨t1, ho⟩ := exo_at I1.hok ea
  obtain ⟨mA, hns, hr⟩ := exd_at I1.hok ed
  obtain ⟨od, hod, hl⟩ := lookIn_ns hns
  obtain ⟨u, hu, ru⟩ := RelO.some_of (v := v) (o := mA n) (by rw [← l]; exact hr n)
  have J : PySem.W.InstAt s1.heap a { cls := .ref C, dict := some dd, data := .fields #[.ref t1, .none, .none, .none, .bool false, .none] } C (some od) := ⟨ho, rfl, rfl, hod⟩
  exact HandSPX.exc_get I1.kIn J T.ga T.gg T.exC (PySem.W.findObj_own T.hdC hno rfl (by rw [hl, hu])) (handed_of ru) ⟨v, H1, I1.tok _, ru, q⟩
/-- isinstance(err, c) -/
inductive ExAt (H : Hp) (a C : Addr) : Prop where
  | own (d : Option Addr) (h : H a = some (exo a C d)) (hd : ∀ dd, d = some dd → ∃ fs, H dd = some (exd dd fs))
  | bare (h : H a = some (ExO (.ref C) a))
def rIsX (K : PySem.W.Frag) : List V → Hp → VK → Prop := fun xs H Q => ∃ (a C : Addr) (c : V) (cv : Value) (b : Bool), xs = [.ref a, c] ∧ ExAt H a C ∧ L2.ExcC K C ∧ ClsV c cv ∧ PySem.W.kitOne K (.ref C) cv = some b ∧ Q (.bl b) H
theorem call_isx : CallR X (.builtin "isinstance") (rIsX X.K) := by
  intro pins s σ H xs us Q I r h
  obtain ⟨a, C, c, cv, b, rfl, hx, T, k, ek, q⟩ := h
  obtain ⟨u1, u2, rfl, r1, r2⟩ := vals2 r
  cases (show u1 = Value.ref a from r1)
  have e2 := k.eq r2
  subst e2
  have hcl : (PySem.W.clsIn X.K C).isSome = true := by
    obtain ⟨cd, hc, _⟩ := PySem.W.any_some T.hd
    rw [hc] <;> rfl
  have fin : ∀ (ox : Obj) (od : Option Obj), PySem.W.InstAt s.heap a ox C od → wpAny (model X.prog X.w) X.A (call (.builtin "isinstance") [Value.ref a, u2]) (EP X pins σ Q) X.xe s := fun ox od J =>
    PySem.W.kia_one (PySem.W.kitx_exc hcl T.hg T.hk T.hs T.ha T.hn T.ht T.hm) I.kIn J ek (fun z => nomatch z) fun tk => ⟨.bl b, H, I.tok tk, rfl, q⟩
  rcases hx with ⟨d, h, hd⟩ | h
  · obtain ⟨t1, ho⟩ := exo_at I.hok h
    cases d with
    | none => exact fin _ none ⟨ho, rfl, rfl, trivial⟩
    | some dd =>
      obtain ⟨fs, ed⟩ := hd dd rfl
      obtain ⟨mA, hns, _⟩ := exd_at I.hok ed
      obtain ⟨od, hod, _⟩ := lookIn_ns hns
      exact fin _ (some od) ⟨ho, rfl, rfl, hod⟩
  · obtain ⟨⟨oe, vs, ho, hz, hd, _⟩, _, _⟩ := I.hok a _ h
    obtain ⟨oc, od, oda, osl⟩ := oe
    obtain ⟨h1, h2⟩ := hz
    dsimp only at h1 h2 hd
    subst h1 h2 hd
    exact fin _ none ⟨ho, rfl, rfl, trivial⟩
/-! ### {t} in an f-string, t a tuple of small ints -/
def iText (i : Int) : Str := Str.ofString (toString i)
theorem repr_allI {prog : Program} {w : World} : ∀ {l : List Int} {its : List Value}, Vals (l.map V.int) its → (∀ y ∈ l, y.natAbs.log2 < 1920) → ReprAll prog w its (l.map iText)
  | [], _, r, _ => by
    cases r
    exact .nil
  | y :: l, _, r, h => by
    cases r with
    | cons r1 r2 =>
      obtain ⟨t, rfl⟩ := r1
      exact .cons (ReprIs.int t (h y List.mem_cons_self)) (repr_allI r2 fun z hz => h z (List.mem_cons_of_mem _ hz))
theorem piledI : ∀ l : List Int, (∀ y ∈ l, y.natAbs.log2 < 1920) → piled (l.map iText) ≤ 2000 * l.length
  | [], _ => Nat.zero_le _
  | y :: l, h => by
    have h1 : (iText y).length ≤ 1921 := PyProof.Rows.int_text_len_1921 (h y List.mem_cons_self)
    have h2 := piledI l fun z hz => h z (List.mem_cons_of_mem _ hz)
    rw [List.map_cons, piled_cons, List.length_cons]
    omega
def tFmtI (K : PySem.W.Frag) (te : TE) : TE := fun σ H Q => te σ H fun x H1 => ∃ (a : Addr) (l : List Int), x = .ref a ∧ SqT K H1 a (l.map V.int) ∧ (∀ y ∈ l, y.natAbs.log2 < 1920) ∧ l.length ≤ 1000 ∧ ∀ m : Str, m.length ≤ 2000 * l.length + 7 → Q (.str m) H1
theorem pe_fmtI {k : Nat} (hr : Room k X.A) (he : PE X e te) : PE X (.FormattedValue e (-1) none pos) (tFmtI X.K te) := by
  refine ⟨fun pins s σ H Q I h => ?_⟩
  refine wpAny_FormattedValue_plain (thn (he.run pins s σ H _ I h) fun v s1 hv => ?_)
  obtain ⟨x, H1, I1, r1, a, l, rfl, ht, hc, hz, q⟩ := hv
  cases r1
  obtain ⟨its, rv, ⟨o, ho, hcl, n, hd⟩, _⟩ := I1.tuple ht
  have hp := piledI l hc
  have htx := fmt_text (l.map iText)
  have hu := hr.units
  have sl : sizeLine = 16777216 := sizeLine_eq
  exact fmt_tuple (ts := l.map iText) (by omega) ho hcl hd (repr_allI rv hc) (by omega) fun m u tk hm => ⟨.str m, H1, I1.tok _, ⟨u, rfl⟩, q m (by omega)⟩
end
end Cm
set_option Elab.async false
set_option linter.all false
set_option maxRecDepth 100000
set_option maxHeartbeats 4000000
namespace Cm
open PySem PySem.Spec PyProof.Rows L2 Evl

/-! ### what evaluates to something of which a lasting word holds -/
abbrev VP := V → Hp → Prop
def Mono (A : VP) : Prop := ∀ v H H', Ex H H' → A v H → A v H'
def EvP (te : TE) (σ : L2.St) (H : Hp) (A : VP) : Prop := ∀ H1, Ex H H1 → ∀ Q : VK, (∀ v H2, Ex H1 H2 → A v H2 → Q v H2) → te σ H1 Q
def EvAP (ta : TA) (σ : L2.St) (H : Hp) (As : List VP) : Prop := ∀ H1, Ex H H1 → ∀ Q : List V → Hp → Prop, (∀ vs H2, Ex H1 H2 → Paired (fun (A : VP) v => A v H2) As vs → Q vs H2) → ta σ H1 Q
def EvLP (te : TE) (σ : L2.St) (H : Hp) (As : List VP) : Prop := ∀ H1, Ex H H1 → ∀ Q : VK, (∀ p vs H2, H1 p = none → Ex H1 H2 → H2 p = some (.lst vs) → Paired (fun (A : VP) v => A v H2) As vs → Q (.ref p) H2) → te σ H1 Q
/-- data -/
def Da (n : Nat) (d : PyData) : VP := fun v H => Rp M0 H n v d
theorem Da.mono (n : Nat) (d : PyData) : Mono (Da n d) := fun _ _ _ e h => Rp.ex e h
/-- a value itself -/
def Eq' (x : V) : VP := fun v _ => v = x
theorem Eq'.mono (x : V) : Mono (Eq' x) := fun _ _ _ _ h => h
def Monos (As : List VP) : Prop := ∀ A ∈ As, Mono A
theorem Monos.nil : Monos [] := fun _ h => absurd h List.not_mem_nil
theorem Monos.cons {A : VP} {As : List VP} (h : Mono A) (t : Monos As) : Monos (A :: As) := fun B hB => by
  rcases List.mem_cons.mp hB with e | e
  · rw [e]
    exact h
  · exact t B e
theorem Monos.app {As Bs : List VP} (h : Monos As) (t : Monos Bs) : Monos (As ++ Bs) := fun B hB => by
  rcases List.mem_append.mp hB with e | e
  · exact h B e
  · exact t B e
theorem Monos.da (n : Nat) (ds : List PyData) : Monos (ds.map (Da n)) := fun A hA => by
  obtain ⟨d, _, rfl⟩ := List.mem_map.mp hA
  exact Da.mono n d
theorem pairs_ex {As : List VP} {vs : List V} {H H' : Hp} (m : Monos As) (e : Ex H H') (h : Paired (fun (A : VP) v => A v H) As vs) : Paired (fun (A : VP) v => A v H') As vs := by
  induction h with
  | nil => exact .nil
  | @cons A v As vs h1 h2 ih => exact .cons (m A List.mem_cons_self _ _ _ e h1) (ih fun B hB => m B (List.mem_cons_of_mem _ hB))
theorem pairs_app {α β : Type} {F : α → β → Prop} {as bs : List α} {us vs : List β} (h : Paired F as us) (t : Paired F bs vs) : Paired F (as ++ bs) (us ++ vs) := by
  induction h with
  | nil => exact t
  | cons h1 h2 ih => exact .cons h1 ih
theorem pairs_da {H : Hp} {n : Nat} : ∀ {ds : List PyData} {vs : List V}, Paired (fun (A : VP) v => A v H) (ds.map (Da n)) vs → Paired (Rp M0 H n) vs ds
  | [], _, h => by
    cases h
    exact .nil
  | d :: ds, _, h => by
    cases h with
    | cons h1 h2 => exact .cons h1 (pairs_da h2)
theorem pairs_len {α β : Type} {F : α → β → Prop} {as : List α} {us : List β} (h : Paired F as us) : as.length = us.length := pair_len h
section
variable {K : PySem.W.Frag} {σ : L2.St} {H H' : Hp} {te tf : TE} {ta : TA} {A B : VP} {As Bs : List VP} {v : V}
theorem EvP.ex (h : EvP te σ H A) (e : Ex H H') : EvP te σ H' A := fun H1 e1 Q q => h H1 (e.trans e1) Q q
theorem EvP.imp (h : EvP te σ H A) (i : ∀ v H', A v H' → B v H') : EvP te σ H B := fun H1 e1 Q q => h H1 e1 Q fun v H2 e2 a => q v H2 e2 (i v H2 a)
theorem evp_of (h : Ev te σ H v) (a : A v H) (m : Mono A) : EvP te σ H A := fun H1 e1 Q q => h H1 e1 Q fun H2 e2 => q v H2 e2 (m _ _ _ (e1.trans e2) a)
theorem evp_var {i : Nat} (h : σ[i]? = some (some v)) (a : A v H) (m : Mono A) : EvP (tVar i) σ H A := evp_of (ev_var h) a m
theorem evp_str {x : Str} {n : Nat} : EvP (tC (.str x)) σ H (Da n (.str x)) := evp_of ev_c Rp.str (Da.mono _ _)
theorem evp_int {x : Int} {n : Nat} : EvP (tC (.int x)) σ H (Da n (.int x)) := evp_of ev_c Rp.int (Da.mono _ _)
theorem eap_nil : EvAP tNil σ H [] := fun H1 _ _ q => q [] H1 (Ex.refl H1) .nil
theorem eap_cons {tr : TA} (h : EvP te σ H A) (m : Mono A) (hr : EvAP tr σ H As) : EvAP (tCons te tr) σ H (A :: As) := fun H1 e Q q =>
  h H1 e _ fun v H2 e2 a => hr H2 (e.trans e2) _ fun vs H3 e3 as => q _ H3 (e2.trans e3) (.cons (m _ _ _ e3 a) as)
theorem evp_tup {n : Nat} {ds : List PyData} (h : EvAP ta σ H (ds.map (Da n))) (hl : ds.length ≤ 1000) : EvP (tTup ta) σ H (Da (n + 1) (.tuple ds)) := fun H1 e Q q =>
  h H1 e _ fun vs H2 e2 as => by
    have hv : vs.length = ds.length := by
      have z := pairs_len as
      rw [List.length_map] at z
      exact z.symm
    exact ⟨sz_of (by omega), fun p hp => q _ _ (e2.trans (Ex.new hp)) ⟨vs, upd_same, by omega, Paired.mapP (pairs_da as) fun _ _ z => z.ex (Ex.new hp), fun z => z⟩⟩
theorem elp_lst (h : EvAP ta σ H As) (m : Monos As) (hl : As.length ≤ 1000) : EvLP (tLst ta) σ H As := fun H1 e Q q =>
  h H1 e _ fun vs H2 e2 as => by
    have hv := pairs_len as
    exact ⟨sz_of (by omega), fun p hp => q _ _ _ (fresh_back e2 hp) (e2.trans (Ex.new hp)) upd_same (pairs_ex m (Ex.new hp) as)⟩
theorem elp_cat (h1 : EvLP te σ H As) (h2 : EvLP tf σ H Bs) (m1 : Monos As) (m2 : Monos Bs) (hl : As.length + Bs.length ≤ 1000) : EvLP (tOp rCat te tf) σ H (As ++ Bs) := fun H1 e Q q =>
  h1 H1 e _ fun p vs H2 n2 e2 l2 as => h2 H2 (e.trans e2) _ fun p' ws H3 n3 e3 l3 bs => by
    have hv := pairs_len as
    have hw := pairs_len bs
    refine ⟨p, p', vs, ws, rfl, rfl, e3 _ _ l2, l3, sz_of (by omega), fun r hr => ?_⟩
    exact q r _ _ (fresh_back (e2.trans e3) hr) (e2.trans (e3.trans (Ex.new hr))) upd_same (pairs_app (pairs_ex m1 (e3.trans (Ex.new hr)) as) (pairs_ex m2 (Ex.new hr) bs))
/-- the first list stands there -/
theorem elp_catV {p : Addr} {vs : List V} (hv : Ev te σ H (.ref p)) (hp : H p = some (.lst vs)) (as : Paired (fun (A : VP) v => A v H) As vs) (h2 : EvLP tf σ H Bs) (m1 : Monos As) (m2 : Monos Bs) (hl : As.length + Bs.length ≤ 1000) : EvLP (tOp rCat te tf) σ H (As ++ Bs) := fun H1 e Q q =>
  hv H1 e _ fun H2 e2 => h2 H2 (e.trans e2) _ fun p' ws H3 n3 e3 l3 bs => by
    have hv := pairs_len as
    have hw := pairs_len bs
    have e13 := (e.trans e2).trans e3
    refine ⟨p, p', vs, ws, rfl, rfl, e13 _ _ hp, l3, sz_of (by omega), fun r hr => ?_⟩
    exact q r _ _ (fresh_back (e2.trans e3) hr) (e2.trans (e3.trans (Ex.new hr))) upd_same (pairs_app (pairs_ex m1 (e13.trans (Ex.new hr)) as) (pairs_ex m2 (Ex.new hr) bs))
theorem EvLP.da {n : Nat} {ds : List PyData} (h : EvLP te σ H (ds.map (Da n))) (hl : ds.length ≤ 1000) : EvP te σ H (Da (n + 1) (.list ds)) := fun H1 e Q q =>
  h H1 e Q fun p vs H2 _ e2 l as => q _ _ e2 ⟨vs, l, by
    have z := pairs_len as
    rw [List.length_map] at z
    omega, pairs_da as, fun z => z⟩
variable {D : Ends} {tz : TS}
theorem q_asgP {i : Nat} (h : EvP te σ H A) (k : ∀ v H1, Ex H H1 → A v H1 → tz D (σ.set i (some v)) H1) : tSeq (tAsg te (gName i)) tz D σ H := h H (Ex.refl H) _ fun v H1 e a => k v H1 e a
theorem q_asgLP {i : Nat} (h : EvLP te σ H As) (k : ∀ p vs H1, Ex H H1 → H1 p = some (.lst vs) → Paired (fun (A : VP) v => A v H1) As vs → tz D (σ.set i (some (.ref p))) H1) : tSeq (tAsg te (gName i)) tz D σ H := h H (Ex.refl H) _ fun p vs H1 _ e l as => k p vs H1 e l as
theorem s_retP (h : EvP te σ H A) (k : ∀ v H1, Ex H H1 → A v H1 → D.rt v H1) : tRet te D σ H := h H (Ex.refl H) _ k
theorem s_retLP (h : EvLP te σ H As) (k : ∀ p vs H1, Ex H H1 → H1 p = some (.lst vs) → Paired (fun (A : VP) v => A v H1) As vs → D.rt (.ref p) H1) : tRet te D σ H := h H (Ex.refl H) _ fun p vs H1 _ e l as => k p vs H1 e l as
end

/-! ### own exceptions: what is known of a class, and its promise -/
/-- an own exception class (with an __init__ of its own) over the base S -/
structure XC (K : PySem.W.Frag) (C S : Addr) : Prop where
  lk : ∃ nm q N bs sn sub ab col dd k0 k1 k2 k3 k5, K.lookup C = some (excClassObj nm q C N bs [.ref S, .type "ValueError", .type "Exception", .type "BaseException", .type "object"] true sn sub ab col dd k0 k1 k2 k3 k5 "ValueError.__new__")
  sa : PySem.W.findIn K (.ref C) "__setattr__" = some (some (.builtin "object.__setattr__"))
  ga : PySem.W.findIn K (.ref C) "__getattribute__" = some (some (.builtin "BaseException.__getattribute__"))
  gg : PySem.W.findIn K (.ref C) "__getattr__" = some none
  ca : PySem.W.findIn K (.ref C) "__class__" = some (some (.builtin "object.__class__"))
  kC : PySem.W.keepIn K (.ref C) = true
theorem XC.cls {K : PySem.W.Frag} {C S : Addr} (x : XC K C S) : ∃ cd : ClassData, PySem.W.clsIn K C = some cd ∧ cd.mro = [.ref C, .ref S, .type "ValueError", .type "Exception", .type "BaseException", .type "object"] ∧ cd.hasDict = true := by
  obtain ⟨nm, q, N, bs, sn, sub, ab, col, dd, k0, k1, k2, k3, k5, h⟩ := x.lk
  refine ⟨{ name := nm, bases := bs, mro := .ref C :: [.ref S, .type "ValueError", .type "Exception", .type "BaseException", .type "object"], ns := N, qualname := q, hasDict := true, slotNames := sn, subclasses := sub, abstract := ab, collection := col, hasDel := false }, ?_, rfl, rfl⟩
  unfold PySem.W.clsIn
  rw [h] <;> rfl
theorem XC.mro {K : PySem.W.Frag} {C S : Addr} (x : XC K C S) (b : Value) : PySem.W.mroIn K C b = some ([Value.ref C, .ref S, .type "ValueError", .type "Exception", .type "BaseException", .type "object"].contains b) := by
  obtain ⟨cd, h, hm, _⟩ := x.cls
  unfold PySem.W.mroIn
  rw [h, Option.bind_some, hm]
  rfl
theorem XC.ty {K : PySem.W.Frag} {C S : Addr} (x : XC K C S) : PySem.W.typeIn K (.ref C) = some (.type "type") := by
  obtain ⟨nm, q, N, bs, sn, sub, ab, col, dd, k0, k1, k2, k3, k5, h⟩ := x.lk
  show (K.lookup C).map (·.cls) = _
  rw [h] <;> rfl
theorem XC.hd {K : PySem.W.Frag} {C S : Addr} (x : XC K C S) : PySem.W.hasDictIn K C = true := by
  obtain ⟨cd, h, _, hd⟩ := x.cls
  unfold PySem.W.hasDictIn
  rw [h]
  exact hd
theorem XC.exC {K : PySem.W.Frag} {C S : Addr} (x : XC K C S) : PySem.W.subIn K (.ref C) (.type "BaseException") = some true := by
  show PySem.W.mroIn K C _ = _
  rw [x.mro]
  simp
theorem XC.oex {K : PySem.W.Frag} {C S : Addr} (x : XC K C S) : OexC K C := by
  obtain ⟨nm, q, N, bs, sn, sub, ab, col, dd, k0, k1, k2, k3, k5, h⟩ := x.lk
  exact ⟨⟨nm, q, N, bs, _, sn, sub, ab, col, dd, k0, k1, k2, k3, k5, h, rfl⟩, x.sa, x.exC, x.ty, x.kC⟩
theorem XC.xf {K : PySem.W.Frag} {C S : Addr} (x : XC K C S) : XfC K C := ⟨x.ga, x.gg, x.exC, x.hd⟩
/-- object.__class__ is what it is -/
structure Obc (K : PySem.W.Frag) : Prop where
  hn : PySem.W.specialIn K (.builtin "object.__class__") "__get__" = some (some (.builtin "getset_descriptor.__get__"))
  ht : PySem.W.takesIn K (.builtin "object.__class__") = some true
theorem XC.ec {K : PySem.W.Frag} {C S : Addr} (x : XC K C S) (o : Obc K) : L2.ExcC K C := ⟨x.ga, x.gg, x.exC, x.hd, x.ca, o.hn, o.ht, by
  rw [x.mro]
  simp⟩
theorem XC.kit {K : PySem.W.Frag} {C S D T : Addr} (x : XC K C S) (y : XC K D T) : PySem.W.kitOne K (.ref C) (.ref D) = some (decide (D = C) || decide (D = S)) := by
  unfold PySem.W.kitOne PySem.W.kitCls
  by_cases h : C = D
  · subst h
    simp
  · obtain ⟨cd, hc, _⟩ := y.cls
    have e1 : ((PySem.W.clsIn K D).isSome && PySem.W.typeIn K (.ref D) == some (.type "type")) = true := by rw [hc, y.ty] <;> rfl
    rw [if_neg (by simpa using h)]
    show (if _ then _ else _) = _
    rw [if_pos e1]
    show PySem.W.mroIn K C _ = _
    rw [x.mro]
    have h' : ¬ D = C := fun z => h z.symm
    by_cases h2 : D = S
    · simp [h', h2]
    · simp [h', h2]
theorem XC.kitTy {K : PySem.W.Frag} {C S : Addr} (x : XC K C S) : PySem.W.kitOne K (.ref C) (.type "ValueError") = some true := by
  unfold PySem.W.kitOne PySem.W.kitCls
  rw [if_neg (by simp)]
  show (if PySem.W.kitMeta "ValueError" = true then _ else _) = _
  rw [if_pos (by decide +kernel)]
  show PySem.W.mroIn K C _ = _
  rw [x.mro]
  simp
/-- what may be handed to the errors: any shallow data; a text; an int; a tuple of ints -/
def okK : Nat → PyData → Prop
  | 1, .str z => z.length ≤ 100
  | 2, .int i => i.natAbs.log2 < 1920
  | 3, .tuple ds => ds.length ≤ 100 ∧ ∃ l : List Int, ds = l.map .int ∧ ∀ y ∈ l, y.natAbs.log2 < 1920
  | 0, _ => True
  | _, _ => False
/-- what a made error holds -/
def Held (C : Addr) (names : List Str) (ds : List PyData) : VP := fun v H => ∃ a d fs, v = .ref a ∧ H a = some (exo a C d) ∧ (∀ dd, d = some dd → H dd = some (exd dd fs)) ∧
  ∀ (i : Nat) (nm : Str) (e : PyData), names[i]? = some nm → ds[i]? = some e → (∃ dd, d = some dd) ∧ ∃ u, fs.lookup nm = some u ∧ Rp M0 H 1 u e
theorem Held.mono (C : Addr) (names : List Str) (ds : List PyData) : Mono (Held C names ds) := fun v H H' e h => by
  obtain ⟨a, d, fs, rfl, h1, h2, h3⟩ := h
  refine ⟨a, d, fs, rfl, e _ _ h1, fun dd hd => e _ _ (h2 dd hd), fun i nm dd hn hd => ?_⟩
  obtain ⟨hs, u, hu, r⟩ := h3 i nm dd hn hd
  exact ⟨hs, u, hu, r.ex e⟩
def spE (C : Addr) (names : List Str) (ks : List Nat) : Sp := fun vs H Q _ => ∃ (a : Addr) (args : List V) (ds : List PyData), vs = .ref a :: args ∧ H a = some (exo a C none) ∧ Paired (Rp M0 H 1) args ds ∧ Paired okK ks ds ∧ args.length = names.length ∧
  ∀ H', SmB a H H' → Held C names ds (.ref a) H' → Q .non H'
/-- such a class with its __init__ -/
structure XD (P : Program) (w : World) (K : PySem.W.Frag) (mg : Str → Option Value) (base : Heap) (k : Nat) (x : Str) (C S : Addr) (ps : List Str) (sp : Sp) where
  fI : Addr
  fd : FuncData
  xc : XC K C S
  T : OexC K C
  iC : PySem.W.findIn K (.ref C) "__init__" = some (some (.ref fI))
  tI : PySem.W.typeIn K (.ref fI) = some (.type "function")
  G : FnOk P w K mg base CX0 k fI fd ps sp
  b : Binds K fd ps []
  gC : mg x = some (.ref C)
theorem evp_mk {K : PySem.W.Frag} {C : Addr} {names : List Str} {ks : List Nat} {σ : L2.St} {H : Hp} {ta : TA} {ds : List PyData} (h : EvAP ta σ H (ds.map (Da 1))) (ok : Paired okK ks ds) (hl : ds.length = names.length) (h9 : ds.length ≤ 9) :
    EvP (tMkV C (spE C names ks) [] ta) σ H (Held C names ds) := fun H1 e Q q =>
  h H1 e _ fun vs H2 e2 as => by
    have hv := pairs_len as
    rw [List.length_map] at hv
    refine ⟨by omega, fun a ha => ?_⟩
    rw [List.append_nil]
    refine ⟨a, vs, ds, rfl, upd_same, Paired.mapP (pairs_da as) fun _ _ z => z.ex (Ex.new ha), ok, by omega, fun H' s h => ⟨rfl, q _ _ (e2.trans fun b o hb => ?_) h⟩⟩
    have nb : b ≠ a := ne_of_none hb ha
    refine s b o nb ?_
    rw [upd_ne nb]
    exact hb
/-- text parts -/
def PartOk (t : TE) (σ : L2.St) (H : Hp) : Prop := ∀ Q : VK, (∀ y : Str, y.length ≤ 3000000 → Q (.str y) H) → t σ H Q
theorem js_ok {σ : L2.St} {H : Hp} {Q : Str → Hp → Prop} (q : ∀ out, Q out H) : ∀ (ts : List TE) (acc : Str), (∀ t ∈ ts, PartOk t σ H) → acc.length + 3000000 * ts.length ≤ 16777216 → tJs ts acc σ H Q
  | [], acc, _, _ => q acc
  | t :: ts, acc, h, hl => h t List.mem_cons_self _ fun y hy => by
    rw [List.length_cons] at hl
    have e := strLen_append acc y
    refine ⟨y, rfl, ?_, js_ok q ts (acc ++ y) (fun u hu => h u (List.mem_cons_of_mem _ hu)) ?_⟩
    · rw [e, sizeLine_eq]
      omega
    · rw [e]
      omega
theorem part_c {σ : L2.St} {H : Hp} {x : Str} (h : x.length ≤ 3000000) : PartOk (tC (.str x)) σ H := fun Q q => q x h
theorem part_s {σ : L2.St} {H : Hp} {i : Nat} {x : Str} (hs : σ[i]? = some (some (.str x))) (h : x.length ≤ 100) : PartOk (tFmt (tVar i)) σ H := fun Q q => ⟨_, hs, .inl ⟨x, rfl, Nat.le_trans h (by decide), q x (by omega)⟩⟩
theorem part_i {σ : L2.St} {H : Hp} {i : Nat} {x : Int} (hs : σ[i]? = some (some (.int x))) (h : x.natAbs.log2 < 1920) : PartOk (tFmt (tVar i)) σ H := fun Q q => ⟨_, hs, .inr ⟨x, rfl, h, q _ (Nat.le_trans (PyProof.Rows.int_text_len_1921 h) (by decide))⟩⟩
theorem part_t {K : PySem.W.Frag} {σ : L2.St} {H : Hp} {i : Nat} {a : Addr} {l : List Int} (hs : σ[i]? = some (some (.ref a))) (ht : H a = some (.tup (l.map V.int))) (h : ∀ y ∈ l, y.natAbs.log2 < 1920) (hl : l.length ≤ 100) : PartOk (tFmtI K (tVar i)) σ H :=
  fun Q q => ⟨_, hs, a, l, rfl, st_of ht, h, by omega, fun m hm => q m (by omega)⟩
theorem ints_of {H : Hp} {n : Nat} : ∀ {l : List Int} {xs : List V}, Paired (Rp M0 H n) xs (l.map .int) → xs = l.map V.int
  | [], _, h => by
    cases h
    rfl
  | y :: l, _, h => by
    cases h with
    | @cons a b l1 l2 h1 h2 =>
      have e : a = V.int y := by
        cases n <;> cases a <;> first
          | exact congrArg V.int h1
          | (exfalso; exact h1)
      rw [e, ints_of h2]
      rfl
end Cm
set_option Elab.async false
set_option linter.all false
set_option maxRecDepth 100000
set_option maxHeartbeats 4000000
namespace Cm
open PySem PySem.Spec PyProof.Rows L2 Evl
theorem Rp.addM {M N : Addr → Prop} {H : Hp} (hN : ∀ a, N a → M a ∨ H a = none) : ∀ {n : Nat} {v : V} {d : PyData}, Rp M H n v d → Rp N H n v d := by
  intro n
  induction n with
  | zero =>
    intro v d h
    cases v <;> cases d <;> first
      | exact h
      | (exfalso; exact h)
  | succ n ih =>
    intro v d h
    cases v <;> cases d <;> first
      | exact h
      | (exfalso; exact h)
      | (obtain ⟨xs, h1, h2, h3, h4⟩ := h
         exact ⟨xs, h1, h2, Paired.mapP h3 fun a b z => ih z, fun z => (hN _ z).elim h4 fun q => by
           rw [q] at h1
           cases h1⟩)
/-- [e for x in xs], e giving the data ds -/
theorem lc_map {J : It} {nn : Nat} {G : Hp → Prop} {xs : List V} (w : Walk J nn G (YAt xs)) (hnn : nn = xs.length) {j : Nat} {vs : List Nat} {σ : L2.St} {te : TE} {H1 : Hp} {M : Addr → Prop} {n : Nat} {ds : List PyData} (hG : ∀ H', Ex H1 H' → G H')
    (hM : ∀ a, M a → H1 a ≠ none) (hlen : xs.length ≤ 1000) (hds : ds.length = xs.length) (hw : ∀ x, wipe ((wipe σ vs).set j (some x)) vs = wipe σ vs)
    (he : ∀ (i : Nat) (x : V) (d : PyData) (H' : Hp) (M' : Addr → Prop), xs[i]? = some x → ds[i]? = some d → Ex H1 H' → (∀ a, M a → M' a) → (∀ a, M' a → H' a ≠ none) → (∀ a, M' a → M a ∨ H1 a = none) →
      ∀ Q : VK, (∀ v H2, Ex H' H2 → Rp M' H2 n v d → Q v H2) → te ((wipe σ vs).set j (some x)) H' Q)
    {Q : VK} (k : ∀ D H' acc, H1 D = none → Ex H1 H' → H' D = some (.lst acc) → acc.length = xs.length → Paired (Rp M H' n) acc ds → ¬ M D → Q (.ref D) H') :
    ∀ D, H1 D = none → ∃ W : Nat → Nat → Hp → Prop, (∃ m, W 0 m (upd H1 D (.lst []))) ∧ ∀ i m H, W i m H →
      (J.stop i H ∧ Q (.ref D) H) ∨ (J.go i H ∧ ∃ Nx : Hp → Prop, (∀ H', Nx H' → ∃ m', m' < m ∧ W (i + 1) m' H') ∧ ∀ x H', J.yld i H x H' → gName j x (wipe σ vs) H' fun σ2 H2 => wipe σ2 vs = wipe σ vs ∧ tYes σ2 H2 fun b H3 =>
        if b = true then te σ2 H3 fun y H4 => ∃ acc, H4 D = some (.lst acc) ∧ acc.length < sizeLine ∧ Nx (upd H4 D (.lst (acc ++ [y]))) else Nx H3) := by
  subst hnn
  intro D hD
  have hMD : ¬ M D := fun z => hM D z hD
  refine lc_it w (fun i H2 => Ex H1 H2 ∧ ∃ acc, H2 D = some (.lst acc) ∧ acc.length = i ∧ Paired (Rp (fun a => M a ∨ a = D) H2 n) acc (ds.take i)) ⟨Ex.new hD, [], upd_same, rfl, .nil⟩ (fun i H2 _ z => hG H2 z.1) ?_ ?_
  · rintro i v H2 H3 hi ⟨e2, acc, hacc, hal, hpa⟩ ⟨rfl, hv⟩
    obtain ⟨d1, g1⟩ : ∃ d1, ds[i]? = some d1 := ⟨ds[i], List.getElem?_eq_getElem (by omega)⟩
    refine ⟨hw v, yes_if ?_⟩
    refine he i v d1 H3 (fun a => M a ∨ a = D) hv g1 e2 (fun a z => .inl z) (fun a z => ?_) (fun a z => z.imp id fun q => by rw [q]; exact hD) _ fun v' H4 e4 r4 => ?_
    · rcases z with z | z
      · intro q
        have := hM a z
        cases h1 : H1 a with
        | none => exact this h1
        | some o =>
          rw [e2 _ _ h1] at q
          cases q
      · rw [z, hacc]
        exact fun q => nomatch q
    · refine ⟨acc, e4 _ _ hacc, small1000 (by omega), (e2.trans e4).mut hD, acc ++ [v'], upd_same, by rw [List.length_append, List.length_singleton, hal], ?_⟩
      have es : ds.take (i + 1) = ds.take i ++ [d1] := by rw [List.take_add_one, g1] <;> rfl
      rw [es]
      have eu : ExM (fun a => M a ∨ a = D) H4 (upd H4 D (.lst (acc ++ [v']))) := ExM.upd (.inr rfl)
      exact pairs_app (Paired.mapP hpa fun _ _ z => (z.ex e4).exM (fun _ q => q) eu) (.cons (r4.exM (fun _ q => q) eu) .nil)
  · rintro H2 ⟨e2, acc, hacc, hal, hpa⟩
    have et : ds.take xs.length = ds := by rw [← hds, List.take_length]
    rw [et] at hpa
    exact k D H2 acc hD e2 hacc hal (Paired.mapP hpa fun _ _ z => z.weak fun _ q => .inl q) hMD
section
variable {K : PySem.W.Frag} {tl te : TE} {j : Nat} {vs : List Nat} {σ : L2.St} {H : Hp} {M : Addr → Prop} {n : Nat} {ds : List PyData} {xs : List V} {a : Addr}
theorem lcT (hl : Ev tl σ H (.ref a)) (hx : H a = some (.tup xs)) (hM : ∀ a, M a → H a ≠ none) (hlen : xs.length ≤ 1000) (hds : ds.length = xs.length) (hw : ∀ x, wipe ((wipe σ vs).set j (some x)) vs = wipe σ vs)
    (he : ∀ (i : Nat) (x : V) (d : PyData) (H' : Hp) (M' : Addr → Prop), xs[i]? = some x → ds[i]? = some d → Ex H H' → (∀ a, M a → M' a) → (∀ a, M' a → H' a ≠ none) → (∀ a, M' a → M a ∨ H a = none) →
      ∀ Q : VK, (∀ v H2, Ex H' H2 → Rp M' H2 n v d → Q v H2) → te ((wipe σ vs).set j (some x)) H' Q)
    {Q : VK} (k : ∀ D H' acc, H D = none → Ex H H' → H' D = some (.lst acc) → acc.length = xs.length → Paired (Rp M H' n) acc ds → ¬ M D → Q (.ref D) H') : tLc (iTup K tl) (gName j) tYes te vs σ H Q :=
  hl H (Ex.refl H) _ fun H1 e1 => ⟨a, rfl, ⟨xs, st_of (e1 _ _ hx)⟩, lc_map (walk_tup (K := K) (a := a) (xs := xs)) rfl (M := M) (n := n) (ds := ds) (fun H' e => st_of (e _ _ (e1 _ _ hx))) (fun a z q => by
      cases h1 : H a with
      | none => exact hM a z h1
      | some o =>
        rw [e1 _ _ h1] at q
        cases q) hlen hds hw
    (fun i x d H' M' h1 h2 e2 h3 h4 h5 => he i x d H' M' h1 h2 (e1.trans e2) h3 h4 fun a z => (h5 a z).imp id fun q => fresh_back e1 q)
    fun D H' acc hD e2 h1 h2 h3 h4 => k D H' acc (fresh_back e1 hD) (e1.trans e2) h1 h2 h3 h4⟩
theorem lcL (hl : Ev tl σ H (.ref a)) (hx : H a = some (.lst xs)) (hM : ∀ a, M a → H a ≠ none) (hlen : xs.length ≤ 1000) (hds : ds.length = xs.length) (hw : ∀ x, wipe ((wipe σ vs).set j (some x)) vs = wipe σ vs)
    (he : ∀ (i : Nat) (x : V) (d : PyData) (H' : Hp) (M' : Addr → Prop), xs[i]? = some x → ds[i]? = some d → Ex H H' → (∀ a, M a → M' a) → (∀ a, M' a → H' a ≠ none) → (∀ a, M' a → M a ∨ H a = none) →
      ∀ Q : VK, (∀ v H2, Ex H' H2 → Rp M' H2 n v d → Q v H2) → te ((wipe σ vs).set j (some x)) H' Q)
    {Q : VK} (k : ∀ D H' acc, H D = none → Ex H H' → H' D = some (.lst acc) → acc.length = xs.length → Paired (Rp M H' n) acc ds → ¬ M D → Q (.ref D) H') : tLc (iList K tl) (gName j) tYes te vs σ H Q :=
  hl H (Ex.refl H) _ fun H1 e1 => ⟨a, rfl, ⟨xs, sq_of (e1 _ _ hx)⟩, lc_map (walk_list (K := K) (a := a) (xs := xs)) rfl (M := M) (n := n) (ds := ds) (fun H' e => sq_of (e _ _ (e1 _ _ hx))) (fun a z q => by
      cases h1 : H a with
      | none => exact hM a z h1
      | some o =>
        rw [e1 _ _ h1] at q
        cases q) hlen hds hw
    (fun i x d H' M' h1 h2 e2 h3 h4 h5 => he i x d H' M' h1 h2 (e1.trans e2) h3 h4 fun a z => (h5 a z).imp id fun q => fresh_back e1 q)
    fun D H' acc hD e2 h1 h2 h3 h4 => k D H' acc (fresh_back e1 hD) (e1.trans e2) h1 h2 h3 h4⟩
theorem cb1 {r : List V → Hp → VK → Prop} {Q : VK} (h : te σ H fun x H1 => r [x] H1 Q) : tCB r (tCons te tNil) σ H Q := h
theorem ret_ {D : Ends} (h : te σ H D.rt) : tRet te D σ H := h
theorem asg_ {D : Ends} {i : Nat} (h : te σ H fun x H1 => D.nx (σ.set i (some x)) H1) : tAsg te (gName i) D σ H := h
theorem seq_asg {D : Ends} {tz : TS} {i : Nat} (h : te σ H fun x H1 => tz D (σ.set i (some x)) H1) : tSeq (tAsg te (gName i)) tz D σ H := h
theorem drop_ {D : Ends} (h : te σ H fun _ H1 => D.nx σ H1) : tDrop te D σ H := h
theorem seq_drop {D : Ends} {tz : TS} (h : te σ H fun _ H1 => tz D σ H1) : tSeq (tDrop te) tz D σ H := h
end
theorem Rp.skip {M : Addr → Prop} {H : Hp} {p : Addr} {o : HO} (hp : H p = some o) (hl : ∀ xs, o ≠ .lst xs) (ht : ∀ xs, o ≠ .tup xs) : ∀ {n : Nat} {v : V} {d : PyData}, Rp M H n v d → Rp (fun b => M b ∨ b = p) H n v d := by
  intro n
  induction n with
  | zero =>
    intro v d h
    cases v <;> cases d <;> first
      | exact h
      | (exfalso; exact h)
  | succ n ih =>
    intro v d h
    cases v <;> cases d <;> first
      | exact h
      | (exfalso; exact h)
      | (obtain ⟨xs, h1, h2, h3, h4⟩ := h
         exact ⟨xs, h1, h2, Paired.mapP h3 fun a b z => ih z, fun z => z.elim h4 fun q => by
           rw [q, hp] at h1
           first | exact hl _ (Option.some.inj h1) | exact ht _ (Option.some.inj h1)⟩)
theorem exo_lst {e C : Addr} {d : Option Addr} {xs : List V} : exo e C d ≠ .lst xs := fun z => by
  have z' : HO.ext _ = HO.lst xs := z
  cases z'
theorem exd_lst {e : Addr} {fs : List (Str × V)} {xs : List V} : exd e fs ≠ .lst xs := fun z => by
  have z' : HO.ext _ = HO.lst xs := z
  cases z'
theorem held_rp {H1 : Hp} {a dx C : Addr} {o : HO} {n : Nat} {y : V} {d : PyData} (ha : H1 a = some (exo a C none)) (hdx : H1 dx = none) (r : Rp M0 H1 n y d) : Rp M0 (upd (upd H1 dx o) a (exo a C (some dx))) n y d := by
  refine (r.skip ha (fun _ => exo_lst) (fun _ => exo_tup)).exM (fun _ z => z.elim) fun b u nb hb => ?_
  have n1 : b ≠ a := fun z => nb (.inr z)
  rw [upd_ne n1, upd_ne (ne_of_none hb hdx)]
  exact hb
theorem lookup1 (f : Str) (y : V) (fs : List (Str × V)) : ((f, y) :: fs).lookup f = some y := by
  rw [L2.lookup_put, if_pos rfl]
theorem held1 {C a dx : Addr} {f : Str} {y : V} {d : PyData} {H H1 : Hp} (s : Ex H H1) (ha : H1 a = some (exo a C none)) (hdx : H1 dx = none) (hne : dx ≠ a) (r : Rp M0 H1 1 y d) :
    SmB a H (upd (upd H1 dx (exd dx [(f, y)])) a (exo a C (some dx))) ∧ Held C [f] [d] (.ref a) (upd (upd H1 dx (exd dx [(f, y)])) a (exo a C (some dx))) := by
  refine ⟨fun b o nb hb => ?_, a, some dx, [(f, y)], rfl, upd_same, fun dd hd => by cases hd; rw [upd_ne hne, upd_same], fun i nm dd hn hd => ⟨⟨dx, rfl⟩, ?_⟩⟩
  · rw [upd_ne nb, upd_ne (ne_of_none (s _ _ hb) hdx)]
    exact s _ _ hb
  · cases i with
    | zero =>
      cases hn
      cases hd
      exact ⟨y, lookup1 _ _ _, held_rp ha hdx r⟩
    | succ i => simp at hn
theorem held0 {C a : Addr} {H : Hp} (ha : H a = some (exo a C none)) : SmB a H H ∧ Held C [] [] (.ref a) H :=
  ⟨SmB.refl a H, a, Option.none, [], rfl, ha, fun dd hd => (nomatch hd), fun i nm dd hn hd => (by simp at hn)⟩
theorem held2 {C a dx : Addr} {f g : Str} {y z : V} {d e : PyData} {H H1 : Hp} (s : Ex H H1) (ha : H1 a = some (exo a C none)) (hdx : H1 dx = none) (hne : dx ≠ a) (hfg : ¬ f = g) (r : Rp M0 H1 1 y d) (r2 : Rp M0 H1 1 z e) :
    SmB a H (upd (upd (upd H1 dx (exd dx [(f, y)])) a (exo a C (some dx))) dx (exd dx [(g, z), (f, y)])) ∧ Held C [f, g] [d, e] (.ref a) (upd (upd (upd H1 dx (exd dx [(f, y)])) a (exo a C (some dx))) dx (exd dx [(g, z), (f, y)])) := by
  have tr : ∀ {n : Nat} {v : V} {d : PyData}, Rp M0 H1 n v d → Rp M0 (upd (upd (upd H1 dx (exd dx [(f, y)])) a (exo a C (some dx))) dx (exd dx [(g, z), (f, y)])) n v d := fun h => by
    refine ((held_rp (o := exd dx [(f, y)]) ha hdx h).skip (p := dx) (o := exd dx [(f, y)]) (by rw [upd_ne hne, upd_same]) (fun _ => exd_lst) (fun _ => exd_tup)).exM (fun _ z => z.elim) fun b u nb hb => ?_
    rw [upd_ne fun z => nb (.inr z)]
    exact hb
  refine ⟨fun b o nb hb => ?_, a, some dx, [(g, z), (f, y)], rfl, by rw [upd_ne hne.symm, upd_same], fun dd hd => by cases hd; exact upd_same, fun i nm dd hn hd => ⟨⟨dx, rfl⟩, ?_⟩⟩
  · have n1 := ne_of_none (s _ _ hb) hdx
    rw [upd_ne n1, upd_ne nb, upd_ne n1]
    exact s _ _ hb
  · cases i with
    | zero =>
      cases hn
      cases hd
      exact ⟨y, by rw [L2.lookup_put, if_neg hfg]; exact lookup1 _ _ _, tr r⟩
    | succ i =>
      cases i with
      | zero =>
        cases hn
        cases hd
        exact ⟨z, lookup1 _ _ _, tr r2⟩
      | succ i => simp at hn
/-- what okK tells of a value -/
theorem ok1 {M : Addr → Prop} {H : Hp} {n : Nat} {v : V} {d : PyData} (k : okK 1 d) (r : Rp M H n v d) : ∃ z, v = .str z ∧ z.length ≤ 100 := by
  cases d with
  | str z =>
    cases n <;> cases v <;> first
      | exact ⟨_, rfl, by
          have e : _ = z := r
          rw [e]
          exact k⟩
      | (exfalso; exact r)
  | _ => exact (show False from k).elim
theorem ok2 {M : Addr → Prop} {H : Hp} {n : Nat} {v : V} {d : PyData} (k : okK 2 d) (r : Rp M H n v d) : ∃ z, v = .int z ∧ z.natAbs.log2 < 1920 := by
  cases d with
  | int z =>
    cases n <;> cases v <;> first
      | exact ⟨_, rfl, by
          have e : _ = z := r
          rw [e]
          exact k⟩
      | (exfalso; exact r)
  | _ => exact (show False from k).elim
theorem ok3 {H : Hp} {n : Nat} {v : V} {d : PyData} (k : okK 3 d) (r : Rp M0 H n v d) : ∃ (a : Addr) (l : List Int), v = .ref a ∧ H a = some (.tup (l.map V.int)) ∧ (∀ y ∈ l, y.natAbs.log2 < 1920) ∧ l.length ≤ 100 := by
  cases d with
  | tuple ds =>
    obtain ⟨hl, l, rfl, hy⟩ := (show ds.length ≤ 100 ∧ ∃ l : List Int, ds = l.map .int ∧ ∀ y ∈ l, y.natAbs.log2 < 1920 from k)
    cases n <;> cases v <;> first
      | (exfalso; exact r)
      | (obtain ⟨xs, h1, _, h3, _⟩ := r
         rw [ints_of h3] at h1
         rw [List.length_map] at hl
         exact ⟨_, l, rfl, h1, hy, hl⟩)
  | _ => exact (show False from k).elim
theorem ExAt.ex {H H' : Hp} {a C : Addr} (e : Ex H H') (h : ExAt H a C) : ExAt H' a C := by
  rcases h with ⟨d, h, hd⟩ | h
  · refine .own d (e _ _ h) fun dd hdd => ?_
    obtain ⟨fs, z⟩ := hd dd hdd
    exact ⟨fs, e _ _ z⟩
  · exact .bare (e _ _ h)
theorem Held.at_ {C : Addr} {names : List Str} {ds : List PyData} {v : V} {H : Hp} (h : Held C names ds v H) : ∃ a, v = .ref a ∧ ExAt H a C := by
  obtain ⟨a, d, fs, rfl, h1, h2, _⟩ := h
  exact ⟨a, rfl, .own d h1 fun dd hd => ⟨fs, h2 dd hd⟩⟩
section
variable {K : PySem.W.Frag} {σ : L2.St} {H : Hp} {te : TE} {C D S : Addr}
theorem evp_isx {a : Addr} {cv : Value} {c : V} {b : Bool} (hv : Ev te σ H (.ref a)) (h : ExAt H a C) (x : L2.ExcC K C) (k : ClsV c cv) (hk : PySem.W.kitOne K (.ref C) cv = some b) :
    Ev (tCB (rIsX K) (tCons te (tCons (tC c) tNil))) σ H (.bl b) := fun H1 e Q q =>
  hv H1 e _ fun H2 e2 => ⟨a, C, c, cv, b, rfl, h.ex (e.trans e2), x, k, hk, q H2 e2⟩
theorem evp_xat {v : V} {names : List Str} {ds : List PyData} {i : Nat} {f : Str} {d : PyData} (hv : Ev te σ H v) (h : Held C names ds v H) (x : XC K C S) (nf : PySem.W.findIn K (.ref C) f = some none) (hn : names[i]? = some f) (hd : ds[i]? = some d) :
    EvP (tXat K f te) σ H (Da 1 d) := fun H1 e Q q =>
  hv H1 e _ fun H2 e2 => by
    have h' := Held.mono C names ds _ _ _ (e.trans e2) h
    obtain ⟨a, dd, fs, rfl, h1, h2, h3⟩ := h'
    obtain ⟨⟨d0, rfl⟩, u, hu, r⟩ := h3 i f d hn hd
    exact ⟨a, C, d0, fs, u, rfl, h1, h2 d0 rfl, hu, x.xf, nf, q u H2 e2 r⟩
end
/-- the base class SwapError -/
structure SC (K : PySem.W.Frag) (S : Addr) : Prop where
  cls : PySem.W.isClsIn K S = true
  ty : PySem.W.typeIn K (.ref S) = some (.type "type")
theorem XC.kitS {K : PySem.W.Frag} {C S : Addr} (x : XC K C S) (s : SC K S) : PySem.W.kitOne K (.ref C) (.ref S) = some true := by
  unfold PySem.W.kitOne PySem.W.kitCls
  by_cases h : C = S
  · subst h
    simp
  · have e1 : ((PySem.W.clsIn K S).isSome && PySem.W.typeIn K (.ref S) == some (.type "type")) = true := by
      have z : (PySem.W.clsIn K S).isSome = true := s.cls
      rw [z, s.ty] <;> rfl
    rw [if_neg (by simpa using h)]
    show (if _ then _ else _) = _
    rw [if_pos e1]
    show PySem.W.mroIn K C _ = _
    rw [x.mro]
    simp
def rowsA (Cs : List Addr) (nds : List (List Str × List PyData)) : List VP := List.zipWith (fun C nd => Held C nd.1 nd.2) Cs nds
theorem rowsA_at {Cs : List Addr} {nds : List (List Str × List PyData)} {k : Nat} {A : VP} (h : (rowsA Cs nds)[k]? = some A) : ∃ (C : Addr) (nd : List Str × List PyData), Cs[k]? = some C ∧ A = Held C nd.1 nd.2 := by
  unfold rowsA at h
  rw [List.getElem?_zipWith] at h
  cases h1 : Cs[k]? with
  | none =>
    rw [h1] at h
    cases h
  | some C =>
    cases h2 : nds[k]? with
    | none =>
      rw [h1, h2] at h
      cases h
    | some nd =>
      rw [h1, h2] at h
      exact ⟨C, nd, rfl, (Option.some.inj h).symm⟩
theorem rowsA_mono (Cs : List Addr) (nds : List (List Str × List PyData)) : Monos (rowsA Cs nds) := fun A hA => by
  obtain ⟨k, hk⟩ := List.mem_iff_getElem?.mp hA
  obtain ⟨C, nd, _, rfl⟩ := rowsA_at hk
  exact Held.mono _ _ _
def flagsD (Cs : List Addr) (S C : Addr) : List PyData := Cs.map fun c => .bool (decide (c = C) || decide (c = S))
theorem flags_at {Cs : List Addr} {S C : Addr} {k : Nat} (hn : Cs.Nodup) (hS : S ∉ Cs) (h : Cs[k]? = some C) : flagsD Cs S C = (List.range Cs.length).map fun i => .bool (decide (i = k)) := by
  unfold flagsD
  obtain ⟨hk, hC⟩ := List.getElem?_eq_some_iff.mp h
  apply List.ext_getElem
  · simp
  · intro i h1 h2
    have hi : i < Cs.length := by simpa using h1
    simp only [List.getElem_map, List.getElem_range]
    have e1 : ¬ Cs[i] = S := fun z => hS (z ▸ List.getElem_mem hi)
    have e2 : (Cs[i] = C) ↔ i = k := by
      rw [← hC]
      exact List.getElem_inj hn
    by_cases hik : i = k
    · subst hik
      simp [hC]
    · have : ¬ Cs[i] = C := fun z => hik (e2.mp z)
      simp [e1, this, hik]
theorem ints_rp {M : Addr → Prop} {H : Hp} {n : Nat} : ∀ l : List Int, Paired (Rp M H n) (l.map V.int) (l.map .int)
  | [] => .nil
  | _ :: l => .cons Rp.int (ints_rp l)
section
variable {σ : L2.St} {H : Hp} {te ta tb : TE}
theorem evl_da {xs : List V} {bs : List Bool} (h : EvL te σ H xs) (e : xs = bs.map V.bl) (hl : bs.length ≤ 1000) : EvP te σ H (Da 1 (.list (bs.map .bool))) := fun H1 e1 Q q =>
  h H1 e1 Q fun p H2 _ e2 hp => by
    subst e
    refine q _ _ e2 ⟨_, hp, by rw [List.length_map]; exact hl, ?_, fun z => z⟩
    clear h hp hl q
    induction bs with
    | nil => exact .nil
    | cons b bs ih => exact .cons Rp.bl ih
theorem given_bools (n : Nat) (g : Nat → Bool) : given n (fun _ => true) (fun i => V.bl (g i)) = ((List.range n).map g).map V.bl := by
  unfold given
  rw [List.filter_eq_self.mpr (fun _ _ => rfl), List.map_map]
  rfl
theorem lg1920 {m : Int} (h : m.natAbs < 2 ^ 200) : m.natAbs.log2 < 1920 := Nat.lt_trans (PySem.Flt.log2_lt_of (by decide) h) (by decide)
theorem Da.le {n m : Nat} (h : n ≤ m) {d : PyData} {v : V} {H : Hp} (r : Da n d v H) : Da m d v H := by
  induction h with
  | refl => exact r
  | step _ ih => exact Rp.up ih
end
end Cm
set_option Elab.async false
set_option linter.all false
set_option maxRecDepth 100000
set_option maxHeartbeats 4000000
namespace My
open PySem PySem.Spec PyProof.Rows L2 Evl Cm
def top (i : Nat) : Stmt := PySem.Challenge.pw_swappedhot_k68_errors_apart.main.body.getD i (.Pass ⟨0, 0, 0, 0⟩)
structure Txt (K : PySem.W.Frag) (mg : Str → Option Value) : Prop where
  b_len : mg "len" = none
  b_abs : mg "abs" = none
  b_int : mg "int" = none
  b_isinstance : mg "isinstance" = none
  b_tuple : mg "tuple" = none
  b_list : mg "list" = none
  b_dict : mg "dict" = none
  b_str : mg "str" = none
  b_bool : mg "bool" = none
  b_all : mg "all" = none
  b_range : mg "range" = none
  b_zip : mg "zip" = none
  b_ValueError : mg "ValueError" = none
section
variable {P : Program} {w : World} {K : PySem.W.Frag} {mg : Str → Option Value} {base : Heap}
/-! ### the law's pool -/
abbrev s__law_pool : Stmt := top 23
abbrev N__law_pool : List Str := ["_law_script", "_law_cells", "_law_great", "_law_small", "_law_cell"]
theorem sc__law_pool : FnScope N__law_pool ["_law_script"] (defScope s__law_pool) := ⟨rfl, rfl, rfl, by decide +kernel, rfl, by decide +kernel, by decide +kernel⟩
def spPool (K : PySem.W.Frag) : Sp := fun vs H Q _ => ∃ (a : Addr) (ns : List Int), vs = [.ref a] ∧ SqL K H a (ns.map V.int) ∧ ns.length ≤ 63 ∧ ∀ p H', Ex H H' → H p = none → PoolAt (fun a => H a ≠ none) H' p → Q (.ref p) H'
theorem ok_pool (T : Txt K mg) {f : Addr} {fd : FuncData} (F : Fun K "_law_pool" "_law_pool" s__law_pool f fd) : FnOk P w K mg base CX0 1 f fd ["_law_script"] (spPool K) := by
  refine F.ok sc__law_pool (fun vs H Q E h => ?_) (fun cdv A outer s H vs Q E hr h => ?_)
  · obtain ⟨a, ns, rfl, _⟩ := h
    rfl
  obtain ⟨a, ns, rfl, hS, hl, k⟩ := h
  refine ⟨_, (pss_cons (ps_setLc (i := 1) (own := [("_law_cell", 4)]) (g := (gName 4)) (tt := tYes) rfl sc__law_pool.nd rfl rfl (sw_true rfl rfl rfl (by decide +kernel)) (pi_list (pe_slice sl_list (pv 0) po_none (po_some pe_int))) (blkOk_by (own := [("_law_cell", 4)]) (N := N__law_pool) (sc := defScope s__law_pool) (by decide +kernel)) (fun _ _ _ _ _ => (pg_name (i := 4) sc__law_pool.nd rfl (Or.inl rfl))) (fun _ _ _ _ _ => pts_nil) (fun _ _ _ _ _ => (pe_callTy call_int1 (by rfl) T.b_int (by decide +kernel) (pa_cons (pv 4) pa_nil))))
  (pss_cons (ps_setLc (i := 2) (own := [("_law_cell", 4)]) (g := (gName 4)) rfl sc__law_pool.nd rfl rfl (sw_true rfl rfl rfl (by decide +kernel)) (pi_list (pv 1)) (blkOk_by (own := [("_law_cell", 4)]) (N := N__law_pool) (sc := defScope s__law_pool) (by decide +kernel)) (fun _ _ _ _ _ => (pg_name (i := 4) sc__law_pool.nd rfl (Or.inl rfl))) (fun _ _ _ _ _ => (pts_one (pt_cmpR op_ge (pe_callB call_abs (by rfl) T.b_abs (by decide +kernel) (pa_cons (pv 4) pa_nil)) (pe_op op_pow pe_int pe_int) (nomark _)))) (fun _ _ _ _ _ => (pe_callB call_abs (by rfl) T.b_abs (by decide +kernel) (pa_cons (pv 4) pa_nil))))
  (pss_cons (ps_setLc (i := 3) (own := [("_law_cell", 4)]) (g := (gName 4)) rfl sc__law_pool.nd rfl rfl (sw_true rfl rfl rfl (by decide +kernel)) (pi_list (pv 1)) (blkOk_by (own := [("_law_cell", 4)]) (N := N__law_pool) (sc := defScope s__law_pool) (by decide +kernel)) (fun _ _ _ _ _ => (pg_name (i := 4) sc__law_pool.nd rfl (Or.inl rfl))) (fun _ _ _ _ _ => (pts_one (pt_cmpR op_lt (pe_callB call_abs (by rfl) T.b_abs (by decide +kernel) (pa_cons (pv 4) pa_nil)) (pe_op op_pow pe_int pe_int) (nomark _)))) (fun _ _ _ _ _ => (pe_op op_mod (pe_callTy call_int1 (by rfl) T.b_int (by decide +kernel) (pa_cons (pv 4) pa_nil)) pe_int)))
  (pss_one (ps_ret (pe_lst (pa_cons (pv 2) (pa_cons (pv 3) (pa_cons pe_int (pa_cons pe_int pa_nil)))))))))), ?_⟩
  obtain ⟨cs, ec, hcl⟩ := cut_ints ns none (some 63)
  have e18 : ∀ (H1 : Hp) (σ : L2.St), Ev (tOp (rI CPow fun i j => .int (i ^ j.toNat)) (tC (.int 10)) (tC (.int 18))) σ H1 (.int ((10 : Int) ^ (18 : Int).toNat)) := fun H1 σ =>
    ev_op ev_c ev_c (rv_I ⟨by decide, by decide, by decide⟩)
  have eabs : ∀ {H1 : Hp} {σ : L2.St} {x : Int}, σ[4]? = some (some (.int x)) → Ev (tCB (fun xs H Q => ∃ i, xs = [.int i] ∧ Q (.int (if i < 0 then -i else i)) H) (tCons (tVar 4) tNil)) σ H1 (.int (absI x)) := fun h =>
    ev_cb (ea_cons (ev_var h) ea_nil) fun H2 _ Q q => ⟨_, rfl, q H2 (Ex.refl H2)⟩
  have eint : ∀ {H1 : Hp} {σ : L2.St} {x : Int}, σ[4]? = some (some (.int x)) → Ev (tCB (fun xs H Q => (∃ i, xs = [.int i] ∧ Q (.int i) H) ∨ ∃ k, xs = [.bl k] ∧ Q (.int (if k then 1 else 0)) H) (tCons (tVar 4) tNil)) σ H1 (.int x) := fun h =>
    ev_cb (ea_cons (ev_var h) ea_nil) fun H2 _ Q q => .inl ⟨_, rfl, q H2 (Ex.refl H2)⟩
  refine q_asgL (xs := cs.map V.int) ?_ fun p1 H1 n1 e1 h1 => ?_
  · rw [show cs.map V.int = given (cutV (ns.map V.int) none (some 63)).length (fun _ => true) (fun i => V.int (cs.getD i 0)) by rw [ec, given_all]]
    refine el_lcNL (K := K) (j := 4) (vs := [4]) _ _ (el_sl (te := tVar 0) (ev_var rfl) eo_none (eo_some (i := 63) ev_c) hS) (by rw [ec, List.length_map]; omega) (fun _ => rfl) (fun i x H1 _ hx => fun H2 _ Q q => q H2 (Ex.refl H2)) (fun i x H1 _ hx _ => ?_)
    rw [ec] at hx
    rw [map_getD hx]
    exact eint rfl
  refine q_asgL (xs := given (cs.map V.int).length (fun i => decide ((10 : Int) ^ (18 : Int).toNat ≤ absI (cs.getD i 0))) (fun i => V.int (absI (cs.getD i 0)))) ?_ fun p2 H2 n2 e2 h2 => ?_
  · refine el_lcL (K := K) (j := 4) (vs := [4]) _ _ (ev_var (i := 1) rfl) (sq_of h1) (by rw [List.length_map]; omega) (fun _ => rfl) (fun i x H1 _ hx => ?_) (fun i x H1 _ hx _ => ?_)
    · rw [map_getD hx]
      exact et_test (ev_op (eabs rfl) (e18 _ _) rv_I0)
    · rw [map_getD hx]
      exact eabs rfl
  refine q_asgL (xs := given (cs.map V.int).length (fun i => decide (absI (cs.getD i 0) < (10 : Int) ^ (18 : Int).toNat)) (fun i => V.int (cs.getD i 0 % 1000003))) ?_ fun p3 H3 n3 e3 h3 => ?_
  · refine el_lcL (K := K) (j := 4) (vs := [4]) _ _ (ev_var (i := 1) rfl) (sq_of (e2 _ _ h1)) (by rw [List.length_map]; omega) (fun _ => rfl) (fun i x H1 _ hx => ?_) (fun i x H1 _ hx _ => ?_)
    · rw [map_getD hx]
      exact et_test (ev_op (eabs rfl) (e18 _ _) rv_I0)
    · rw [map_getD hx]
      exact ev_op (eint rfl) ev_c (rv_I (by show (0 : Int) < 1000003; decide))
  refine s_retL (el_lst (ea_cons (ev_var rfl) (ea_cons (ev_var rfl) (ea_cons ev_c (ea_cons ev_c ea_nil)))) (by show 4 ≤ 100000; decide)) fun p H4 n4 e4 h4 => ?_
  rw [given_ints] at h2 h3
  refine k p H4 (e1.trans (e2.trans (e3.trans e4))) (fresh_back (e1.trans (e2.trans e3)) n4) ⟨p2, p3, _, _, 0, 0, h4, e4 _ _ (e3 _ _ h2), e4 _ _ h3, fun x hx => ?_, fun x hx => ?_, Int.le_refl 0, Int.le_refl 0, fun z => z (fresh_back e1 n2), fun z => z (fresh_back (e1.trans e2) n3)⟩
  · obtain ⟨i, hi, rfl⟩ := given_mem hx
    have h := of_decide_eq_true hi
    exact Int.lt_of_lt_of_le (by decide) h
  · obtain ⟨i, hi, rfl⟩ := given_mem hx
    constructor
    · exact Int.emod_nonneg _ (by decide)
    · exact Int.emod_lt_of_pos _ (by decide)

abbrev s__law_draw : Stmt := top 24
abbrev N__law_draw : List Str := ["_law_pool_here", "_law_many", "_law_great", "_law_digit", "_law_seed", "_law_number"]
theorem sc__law_draw : FnScope N__law_draw ["_law_pool_here", "_law_many"] (defScope s__law_draw) := ⟨rfl, rfl, rfl, by decide +kernel, rfl, by decide +kernel, by decide +kernel⟩
def spDraw : Sp := fun vs H Q _ => ∃ (M : Addr → Prop) (p : Addr) (m : Int), vs = [.ref p, .int m] ∧ Live M H ∧ PoolAt M H p ∧ 0 < m ∧ m.natAbs.log2 < 9000 ∧ ∀ d H', 0 ≤ d → d < m → SmB p H H' → PoolAt M H' p → Q (.int d) H'
theorem ok_draw (T : Txt K mg) {f : Addr} {fd : FuncData} (F : Fun K "_law_draw" "_law_draw" s__law_draw f fd) : FnOk P w K mg base CX0 1 f fd ["_law_pool_here", "_law_many"] spDraw := by
  refine F.ok sc__law_draw (fun vs H Q E h => ?_) (fun cdv A outer s H vs Q E hr h => ?_)
  · obtain ⟨M, a, ns, rfl, _⟩ := h
    rfl
  obtain ⟨M, p, m, rfl, hM, hP, hm, hlog, k⟩ := h
  refine ⟨_, (pss_cut (ps_if (PW.pt (pw_and (pt_cmpR op_eq (pe_ix ix_list (pv 0) pe_int (fun _ _ => rfl)) pe_int (nomark _)) (pw_and1 (pt_cmpR op_gt (pe_callB call_len_seq (by rfl) T.b_len (by decide +kernel) (pa_cons (pe_ix ix_list (pv 0) pe_int (fun _ _ => rfl)) pa_nil)) pe_int (nomark _))))) (pss_cons (ps_set (i := 2) sc__law_draw.nd rfl (Or.inl rfl) (pe_ix ix_list (pv 0) pe_int (fun _ _ => rfl)))
  (pss_cons (ps_asg (pe_ix ix_list (pv 2) pe_int (fun _ _ => rfl)) (pg_sub (pv 0) pe_int set_list))
  (pss_one (ps_asg (pe_slice sl_list (pv 2) (po_some pe_int) po_none) (pg_sub (pv 0) pe_int set_list))))) pss_nil)
  (pss_cons (ps_if (pt_cmpR op_gt (pe_ix ix_list (pv 0) pe_int (fun _ _ => rfl)) pe_int (nomark _)) (pss_cons (ps_set (i := 3) sc__law_draw.nd rfl (Or.inl rfl) (pe_op op_mod (pe_callTy call_int1 (by rfl) T.b_int (by decide +kernel) (pa_cons (pe_ix ix_list (pv 0) pe_int (fun _ _ => rfl)) pa_nil)) (pv 1)))
  (pss_cons (ps_asg (pe_op op_fdivW (pe_ix ix_list (pv 0) pe_int (fun _ _ => rfl)) (pv 1)) (pg_sub (pv 0) pe_int set_list))
  (pss_one (ps_ret (pv 3))))) pss_nil)
  (pss_cons (ps_asg (pe_op op_add (pe_ix ix_list (pv 0) pe_int (fun _ _ => rfl)) pe_int) (pg_sub (pv 0) pe_int set_list))
  (pss_cons (ps_set (i := 4) sc__law_draw.nd rfl (Or.inl rfl) pe_int)
  (pss_cut (ps_if (pt_cmpR op_gt (pe_callB call_len_seq (by rfl) T.b_len (by decide +kernel) (pa_cons (pe_ix ix_list (pv 0) pe_int (fun _ _ => rfl)) pa_nil)) pe_int (nomark _)) (pss_one (ps_set (i := 4) sc__law_draw.nd rfl (Or.inl rfl) (pe_ix ix_list (pe_ix ix_list (pv 0) pe_int (fun _ _ => rfl)) (pe_op op_mod (pe_callTy call_int1 (by rfl) T.b_int (by decide +kernel) (pa_cons (pe_ix ix_list (pv 0) pe_int (fun _ _ => rfl)) pa_nil)) (pe_callB call_len_seq (by rfl) T.b_len (by decide +kernel) (pa_cons (pe_ix ix_list (pv 0) pe_int (fun _ _ => rfl)) pa_nil))) (fun _ _ => rfl)))) pss_nil)
  (pss_cons (ps_set (i := 5) sc__law_draw.nd rfl (Or.inl rfl) (pe_op op_mod (pe_callTy call_int1 (by rfl) T.b_int (by decide +kernel) (pa_cons (pe_op op_mul (pe_op op_add (pe_op op_add (pv 4) (pe_op op_mul pe_int (pe_ix ix_list (pv 0) pe_int (fun _ _ => rfl)))) pe_int) pe_int) pa_nil)) pe_int))
  (pss_cons (ps_set (i := 5) sc__law_draw.nd rfl (Or.inl rfl) (pe_op op_mod (pe_callTy call_int1 (by rfl) T.b_int (by decide +kernel) (pa_cons (pe_op op_mul (pv 5) (pe_op op_add (pe_op op_fdiv (pv 5) pe_int) pe_int)) pa_nil)) pe_int))
  (pss_cons (ps_set (i := 5) sc__law_draw.nd rfl (Or.inl rfl) (pe_op op_mod (pe_callTy call_int1 (by rfl) T.b_int (by decide +kernel) (pa_cons (pe_op op_mul (pv 5) (pe_op op_add (pe_op op_fdiv (pv 5) pe_int) pe_int)) pa_nil)) pe_int))
  (pss_one (ps_ret (pe_op op_mod (pe_callTy call_int1 (by rfl) T.b_int (by decide +kernel) (pa_cons (pe_op op_fdiv (pv 5) pe_int) pa_nil)) (pv 1)))))))))))), ?_⟩
  refine q_cut (M := fun σ' H' => ∃ x, σ' = [some (.ref p), some (.int m), x, none, none, none] ∧ SmB p H H' ∧ PoolAt M H' p) ?_ ?_
  · obtain ⟨g, s, gs, ss, cur, cnt, hP⟩ := hP
    have pix : ∀ {H1 : Hp} {j : Int} {v : V}, Ex H H1 → atI [V.ref g, .ref s, .int cur, .int cnt] j = some v → Ev (tOp (rIxL K) (tVar 0) (tC (.int j))) (L2.start N__law_draw [.ref p, .int m]) H1 v := fun e h =>
      ev_op (ev_var rfl) ev_c (rv_ixL (sq_of (e _ _ hP.obj)) h)
    refine s_when (et_and (et_test (ev_op (pix (Ex.refl _) rfl) ev_c (rv_eq rfl))) fun _ => et_test (ev_op (ev_lenL (pix (Ex.refl _) rfl) (sq_of hP.great)) ev_c rv_I0)) (fun hb H1 e1 => ?_) (fun hb H1 e1 => ?_)
    · have hlen := of_decide_eq_true (Bool.and_eq_true_iff.mp hb).2
      cases gs with
      | nil => exact absurd hlen (by decide)
      | cons y r =>
        refine q_asg (pix e1 rfl) fun H2 e2 => ?_
        have hP2 := (hP.ex e1).ex e2
        refine q_setL (j := 2) hP2.obj (ev_op (ev_var rfl) ev_c (rv_ixL (sq_of hP2.great) (at_of (j := 0) (v := V.int y) rfl rfl))) (ev_var rfl) ev_c (by show 2 < 4; decide) fun H3 e3 => ?_
        have hP3 := hP2.ex e3
        have hg3 : (upd H3 p (.lst ([V.ref g, .ref s, .int cur, .int cnt].set 2 (.int y)))) g = some (.lst ((y :: r).map V.int)) := by
          rw [upd_ne hP3.ng]
          exact hP3.great
        refine s_setLL (j := 0) upd_same (el_sl (ev_var rfl) (eo_some ev_c) eo_none (sq_of hg3)) (ev_var rfl) ev_c (by show 0 < 4; decide) fun q H4 hq e4 h4 => ?_
        rw [cut1] at h4
        have hnqp : q ≠ p := fun z => by
          rw [z, upd_same] at hq
          cases hq
        refine ⟨_, rfl, ?_, q, s, r, ss, y, cnt, upd_same, ?_, ?_, fun x hx => hP.gpos x (List.mem_cons_of_mem _ hx), hP.srng, Int.le_of_lt (hP.gpos y List.mem_cons_self), hP.cnt0, fun z => ?_, hP.ms⟩
        · exact (((SmB.of (e1.trans (e2.trans e3))).trans SmB.upd).trans (SmB.of e4)).trans SmB.upd
        · rw [upd_ne hnqp]
          exact h4
        · rw [upd_ne hP.ns]
          refine e4 _ _ ?_
          rw [upd_ne hP.ns]
          exact hP3.small
        · have hq3 : H3 q = none := by
            rw [upd_ne hnqp] at hq
            exact hq
          exact hM q z (fresh_back (e1.trans (e2.trans e3)) hq3)
    · exact ⟨_, rfl, SmB.of e1, (PoolAt.ex ⟨g, s, gs, ss, cur, cnt, hP⟩ e1)⟩
  rintro σ' H1 ⟨x2, rfl, s1, g, s, gs, ss, cur, cnt, hP1⟩
  have pix : ∀ {H2 : Hp} {σ2 : L2.St} {j : Int} {v : V}, σ2[0]? = some (some (.ref p)) → H2 p = some (.lst [V.ref g, .ref s, .int cur, .int cnt]) → atI [V.ref g, .ref s, .int cur, .int cnt] j = some v → Ev (tOp (rIxL K) (tVar 0) (tC (.int j))) σ2 H2 v := fun hv ho h =>
    ev_op (ev_var hv) ev_c (rv_ixL (sq_of ho) h)
  refine q_when (et_test (ev_op (pix rfl hP1.obj rfl) ev_c rv_I0)) (fun hb H2 e2 => ?_) (fun hb H2 e2 => ?_)
  · have hP2 := hP1.ex e2
    refine q_asg (ev_op (ev_int (K := K) (pix rfl hP2.obj rfl)) (ev_var rfl) (rv_I hm)) fun H3 e3 => ?_
    have hP3 := hP2.ex e3
    refine q_setL (j := 2) hP3.obj (ev_op (pix rfl hP3.obj rfl) (ev_var rfl) (rv_I ⟨hm, hlog⟩)) (ev_var rfl) ev_c (by show 2 < 4; decide) fun H4 e4 => ?_
    have hP4 := hP3.ex e4
    refine s_ret (ev_var rfl) fun H5 e5 => k _ _ (Int.emod_nonneg _ (by omega)) (Int.emod_lt_of_pos _ hm) ?_ (PoolAt.ex ⟨g, s, gs, ss, cur / m, cnt, upd_same, ?_, ?_, hP1.gpos, hP1.srng, Int.ediv_nonneg hP1.cur0 (Int.le_of_lt hm), hP1.cnt0, hP1.mg, hP1.ms⟩ e5)
    · exact ((s1.trans (SmB.of (e2.trans (e3.trans e4)))).trans SmB.upd).trans (SmB.of e5)
    · rw [upd_ne hP1.ng]
      exact hP4.great
    · rw [upd_ne hP1.ns]
      exact hP4.small
  · have hP2 := hP1.ex e2
    refine q_setL (j := 3) hP2.obj (ev_op (pix rfl hP2.obj rfl) ev_c rv_I0) (ev_var rfl) ev_c (by show 3 < 4; decide) fun H3 e3 => ?_
    have hP3 : PoolS M (upd H3 p (.lst ([V.ref g, .ref s, .int cur, .int cnt].set 3 (.int (cnt + 1))))) p g s gs ss cur (cnt + 1) := by
      have z := hP2.ex e3
      refine ⟨upd_same, ?_, ?_, z.gpos, z.srng, z.cur0, by have := z.cnt0; omega, z.mg, z.ms⟩
      · rw [upd_ne z.ng]
        exact z.great
      · rw [upd_ne z.ns]
        exact z.small
    have s3 : SmB p H (upd H3 p (.lst ([V.ref g, .ref s, .int cur, .int cnt].set 3 (.int (cnt + 1))))) := (s1.trans (SmB.of (e2.trans e3))).trans SmB.upd
    generalize upd H3 p (.lst ([V.ref g, .ref s, .int cur, .int cnt].set 3 (.int (cnt + 1)))) = H3 at hP3 s3
    refine q_asg ev_c fun H4 e4 => ?_
    have hP4 := hP3.ex e4
    have s4 := s3.trans (SmB.of (a := p) e4)
    have pix4 : ∀ {H2 : Hp} {σ2 : L2.St} {j : Int} {v : V}, σ2[0]? = some (some (.ref p)) → H2 p = some (.lst [V.ref g, .ref s, .int cur, .int (cnt + 1)]) → atI [V.ref g, .ref s, .int cur, .int (cnt + 1)] j = some v → Ev (tOp (rIxL K) (tVar 0) (tC (.int j))) σ2 H2 v := fun hv ho h =>
      ev_op (ev_var hv) ev_c (rv_ixL (sq_of ho) h)
    refine q_cut (M := fun σ' H' => ∃ sd : Int, σ' = [some (.ref p), some (.int m), x2, none, some (.int sd), none] ∧ Ex H4 H') ?_ ?_
    · refine s_when (et_test (ev_op (ev_lenL (pix4 rfl hP4.obj rfl) (sq_of hP4.small)) ev_c rv_I0)) (fun hb H5 e5 => ?_) (fun hb H5 e5 => ?_)
      · have hlen := of_decide_eq_true hb
        rw [List.length_map] at hlen
        have hP5 := hP4.ex e5
        have h0 : 0 ≤ (cnt + 1) % (ss.length : Int) := Int.emod_nonneg _ (by omega)
        have h1 : (cnt + 1) % (ss.length : Int) < (ss.length : Int) := Int.emod_lt_of_pos _ (by omega)
        have hi : ((cnt + 1) % (ss.length : Int)).toNat < ss.length := by omega
        have ha : atI (ss.map V.int) ((cnt + 1) % ((ss.map V.int).length : Int)) = some (.int ss[((cnt + 1) % (ss.length : Int)).toNat]) := by
          rw [List.length_map]
          refine at_of (j := ((cnt + 1) % (ss.length : Int)).toNat) (by omega) ?_
          rw [List.getElem?_map, List.getElem?_eq_getElem hi]
          rfl
        refine s_asg (ev_op (pix4 rfl hP5.obj rfl) (ev_op (ev_int (K := K) (pix4 rfl hP5.obj rfl)) (ev_lenL (pix4 rfl hP5.obj rfl) (sq_of hP5.small)) (rv_I (by rw [List.length_map]; exact hlen))) (rv_ixL (sq_of hP5.small) ha)) fun H6 e6 => ?_
        exact ⟨_, rfl, e5.trans e6⟩
      · exact ⟨_, rfl, e5⟩
    rintro σ' H5 ⟨sd, rfl, e5⟩
    have hP5 := hP4.ex e5
    refine q_asg (ev_op (ev_int (K := K) (ev_op (ev_op (ev_op (ev_var rfl) (ev_op ev_c (pix4 rfl hP5.obj rfl) (rv_I (.inl ⟨by decide, by decide⟩))) rv_I0) ev_c rv_I0) ev_c (rv_I (.inr ⟨by decide, by decide⟩)))) ev_c (rv_I (by show (0 : Int) < 2147483647; decide))) fun H6 e6 => ?_
    have bm : ∀ x : Int, 0 ≤ x % 2147483647 ∧ x % 2147483647 < 2147483647 := fun x => ⟨Int.emod_nonneg _ (by decide), Int.emod_lt_of_pos _ (by decide)⟩
    generalize hn1 : (sd + 7919 * (cnt + 1) + 1) * 48271 % 2147483647 = n1
    have b1 : 0 ≤ n1 ∧ n1 < 2147483647 := hn1 ▸ bm _
    refine q_asg (ev_op (ev_int (K := K) (ev_op (ev_var rfl) (ev_op (ev_op (ev_var rfl) ev_c (rv_I ⟨by decide, by decide⟩)) ev_c rv_I0) (rv_I (.inl ⟨by omega, by omega⟩)))) ev_c (rv_I (by show (0 : Int) < 2147483647; decide))) fun H7 e7 => ?_
    generalize hn2 : n1 * (n1 / 1009 + 69621) % 2147483647 = n2
    have b2 : 0 ≤ n2 ∧ n2 < 2147483647 := hn2 ▸ bm _
    refine q_asg (ev_op (ev_int (K := K) (ev_op (ev_var rfl) (ev_op (ev_op (ev_var rfl) ev_c (rv_I ⟨by decide, by decide⟩)) ev_c rv_I0) (rv_I (.inl ⟨by omega, by omega⟩)))) ev_c (rv_I (by show (0 : Int) < 2147483399; decide))) fun H8 e8 => ?_
    refine s_ret (ev_op (ev_int (K := K) (ev_op (ev_var rfl) ev_c (rv_I ⟨by decide, by decide⟩))) (ev_var rfl) (rv_I hm)) fun H9 e9 => k _ _ (Int.emod_nonneg _ (by omega)) (Int.emod_lt_of_pos _ hm) ?_ ?_
    · exact s4.trans (SmB.of (e5.trans (e6.trans (e7.trans (e8.trans e9)))))
    · exact PoolAt.ex ⟨g, s, gs, ss, cur, cnt + 1, hP4⟩ (e5.trans (e6.trans (e7.trans (e8.trans e9))))

abbrev s__law_pick : Stmt := top 25
abbrev N__law_pick : List Str := ["_law_pool_here", "_law_items"]
theorem sc__law_pick : FnScope N__law_pick ["_law_pool_here", "_law_items"] (defScope s__law_pick) := ⟨rfl, rfl, rfl, by decide +kernel, rfl, by decide +kernel, by decide +kernel⟩
def spPick (K : PySem.W.Frag) : Sp := fun vs H Q _ => ∃ (M : Addr → Prop) (p l : Addr) (xs : List V), vs = [.ref p, .ref l] ∧ Live M H ∧ PoolAt M H p ∧ SqL K H l xs ∧ l ≠ p ∧ 0 < xs.length ∧ xs.length ≤ 1000000 ∧ ∀ v H', v ∈ xs → SmB p H H' → PoolAt M H' p → Q v H'
theorem ok_pick (T : Txt K mg) (D__law_draw : Df P w K mg base 1 "_law_draw" ["_law_pool_here", "_law_many"] spDraw) {f : Addr} {fd : FuncData} (F : Fun K "_law_pick" "_law_pick" s__law_pick f fd) :
    FnOk P w K mg base CX0 2 f fd ["_law_pool_here", "_law_items"] (spPick K) := by
  refine F.ok sc__law_pick (fun vs H Q E h => ?_) (fun cdv A outer s H vs Q E hr h => ?_)
  · obtain ⟨M, p, l, xs, rfl, _⟩ := h
    rfl
  obtain ⟨M, p, l, xs, rfl, hM, hP, hS, hne, h0, h1, k⟩ := h
  refine ⟨_, (pss_one (ps_ret (pe_ix ix_list (pv 1) (pe_call D__law_draw.G (hr.mono (by omega)) rfl D__law_draw.m D__law_draw.kp D__law_draw.b .nil pass0 (pa_cons (pv 0) (pa_cons (pe_callB call_len_seq (by rfl) T.b_len (by decide +kernel) (pa_cons (pv 1) pa_nil)) pa_nil))) (fun _ _ => rfl)))), ?_⟩
  refine ⟨_, rfl, _, rfl, _, rfl, l, xs, rfl, .inl hS, M, p, _, rfl, hM, hP, by omega, lgs (lt40 (by omega)), fun d H' d0 d1 hs hP' => ?_⟩
  have hd : d.toNat < xs.length := by omega
  exact ⟨l, xs, d, xs[d.toNat], rfl, rfl, hs.l hne hS, at_of (j := d.toNat) (by omega) (List.getElem?_eq_getElem hd), k _ _ (List.getElem_mem hd) hs hP'⟩

abbrev s__law_name : Stmt := top 26
abbrev N__law_name : List Str := ["_law_pool_here", "_law_taken", "_law_letters", "_law_size", "_law_word", "_law_k"]
theorem sc__law_name : FnScope N__law_name ["_law_pool_here", "_law_taken"] (defScope s__law_name) := ⟨rfl, rfl, rfl, by decide +kernel, rfl, by decide +kernel, by decide +kernel⟩
def spName (K : PySem.W.Frag) : Sp := fun vs H Q _ => ∃ (M : Addr → Prop) (p t : Addr) (ts : List Str), vs = [.ref p, .ref t] ∧ Live M H ∧ PoolAt M H p ∧ SqL K H t (ts.map V.str) ∧ t ≠ p ∧ ts.length ≤ 25 ∧ ∀ z H', IsName z → SmB p H H' → PoolAt M H' p → Q (.str z) H'
theorem ok_name (T : Txt K mg) (D__law_draw : Df P w K mg base 1 "_law_draw" ["_law_pool_here", "_law_many"] spDraw) {f : Addr} {fd : FuncData} (F : Fun K "_law_name" "_law_name" s__law_name f fd) :
    FnOk P w K mg base CX0 2 f fd ["_law_pool_here", "_law_taken"] (spName K) := by
  refine F.ok sc__law_name (fun vs H Q E h => ?_) (fun cdv A outer s H vs Q E hr h => ?_)
  · obtain ⟨M, p, l, xs, rfl, _⟩ := h
    rfl
  obtain ⟨M, p, t, ts, rfl, hM, hP, hS, hne, h25, k⟩ := h
  refine ⟨_, (pss_cons (ps_set (i := 2) sc__law_name.nd rfl (Or.inl rfl) pe_str)
  (pss_cons (ps_set (i := 3) sc__law_name.nd rfl (Or.inl rfl) (pe_op op_add pe_int (pe_call D__law_draw.G (hr.mono (by omega)) rfl D__law_draw.m D__law_draw.kp D__law_draw.b .nil pass0 (pa_cons (pv 0) (pa_cons pe_int pa_nil)))))
  (pss_cons (ps_set (i := 4) sc__law_name.nd rfl (Or.inl rfl) (pe_ix ix_str (pv 2) (pe_call D__law_draw.G (hr.mono (by omega)) rfl D__law_draw.m D__law_draw.kp D__law_draw.b .nil pass0 (pa_cons (pv 0) (pa_cons (pe_op op_sub pe_int (pe_callTy call_int1 (by rfl) T.b_int (by decide +kernel) (pa_cons (pe_cmpR op_eq (pv 3) pe_int (nomark _)) pa_nil))) pa_nil))) (fun _ _ => rfl)))
  (pss_cons (ps_for PassesOwn.never rfl (pi_range1 (by rfl) T.b_range (pa_cons (pe_op op_sub (pv 3) pe_int) pa_nil)) (pg_name (i := 5) sc__law_name.nd rfl (Or.inl rfl))
  (pss_one (ps_set (i := 4) sc__law_name.nd rfl (Or.inl rfl) (pe_op op_add_str (pv 4) (pe_ix ix_str (pv 2) (pe_call D__law_draw.G (hr.mono (by omega)) rfl D__law_draw.m D__law_draw.kp D__law_draw.b .nil pass0 (pa_cons (pv 0) (pa_cons pe_int pa_nil))) (fun _ _ => rfl))))))
  (pss_cons (ps_if (PW.pt (pw_or (pt_cmpR op_in_seq (pv 4) (pv 1) (by rfl)) (pw_or1 (pt_cmpR op_eq (pv 4) pe_str (nomark _))))) (pss_one (ps_ret (pe_op op_add_str pe_str (pe_ix ix_str (pv 2) (pe_callB call_len_seq (by rfl) T.b_len (by decide +kernel) (pa_cons (pv 1) pa_nil)) (fun _ _ => rfl))))) pss_nil)
  (pss_one (ps_ret (pv 4)))))))), ?_⟩
  have lv : ∀ {H' : Hp}, SmB p H H' → PoolAt M H' p → Live M H' := fun s P => hM.smb s (by
    obtain ⟨o, ho⟩ := P.some
    rw [ho]
    exact fun q => nomatch q)
  -- the size
  refine ⟨_, rfl, M, p, 8, rfl, hM, hP, by decide, lgs (by decide), fun d H1 d0 d1 s1 P1 => ⟨1, d, rfl, rfl, ?_⟩⟩
  -- the first letter
  have hm : ∀ b : Bool, 0 < 26 - (if b = true then (1 : Int) else 0) ∧ 26 - (if b = true then (1 : Int) else 0) ≤ 26 := fun b => by cases b <;> decide
  refine ⟨_, rfl, _, rfl, _, rfl, rfl, .inr ⟨_, rfl, _, _, rfl, rfl, M, p, _, rfl, lv s1 P1, P1, (hm _).1, lgs (lt40 (by have h := hm (decide (V.int (1 + d) = V.int 8)); omega)), fun e H2 e0 e1 s2 P2 => ?_⟩⟩
  have he26 : e < 26 := by
    have h := hm (decide (V.int (1 + d) = V.int 8))
    omega
  obtain ⟨c, hc, c0, c1⟩ := az_atI e0 he26
  refine ⟨_, _, c, rfl, rfl, az_len, hc, ?_⟩
  -- the loop
  refine ⟨_, rfl, _, _, rfl, rfl, 1 + d - 1, rfl, by omega, by omega, for_range (lo := 0) (n := (1 + d - 1).toNat) (fun i σ' H' => ∃ (z : Str) (x : Option V), σ' = [some (.ref p), some (.ref t), some (.str AZ), some (.int (1 + d)), some (.str z), x] ∧ z.length = 1 + i ∧ (∀ c ∈ z.cps.toList, 97 ≤ c ∧ c ≤ 122) ∧ SmB p H H' ∧ PoolAt M H' p)
    ⟨_, _, rfl, rfl, fun d hd => by
      have e' : d = c := by simpa using hd
      rw [e']
      exact ⟨c0, c1⟩, s1.trans s2, P2⟩ ?_ ?_⟩
  · rintro i σ' H' hi ⟨z, x, rfl, hz, haz, s3, P3⟩
    refine ⟨_, rfl, _, rfl, _, rfl, M, p, 26, rfl, lv s3 P3, P3, by decide, lgs (by decide), fun e H4 e0 e1 s4 P4 => ?_⟩
    obtain ⟨c, hc, c0, c1⟩ := az_atI e0 e1
    refine ⟨_, _, c, rfl, rfl, az_len, hc, _, _, rfl, rfl, ?_, ?_⟩
    · rw [hz, one_len]
      exact Nat.le_trans (by omega : 1 + i + 1 ≤ 1000) (by decide)
    · refine ⟨_, _, rfl, ?_, name_add haz ⟨c0, c1⟩, s3.trans s4, P4⟩
      rw [strLen_append, hz, one_len]
      omega
  · rintro σ' H' ⟨z, x, rfl, hz, haz, s3, P3⟩
    have hS' : SqL K H' t (ts.map V.str) := s3.l hne hS
    have hN : IsName z := ⟨by omega, by omega, haz⟩
    refine ⟨_, rfl, _, rfl, t, _, rfl, .inl hS', rfl, flat_strs ts, ?_⟩
    refine ⟨_, rfl, ?_⟩
    have last : tRet (tVar 4) { nx := fun _ H' => Q .non H', rt := Q } [some (.ref p), some (.ref t), some (.str AZ), some (.int (1 + d)), some (.str z), x] H' := ⟨_, rfl, k z H' hN s3 P3⟩
    have other : tRet (tOp (fun x y H Q => ∃ i j, x = .str i ∧ y = .str j ∧ i.length + j.length ≤ sizeLine ∧ Q (.str (i ++ j)) H) (tC (.str "zzzzzzz")) (tOp rIxS (tVar 2) (tCB (fun xs H Q => ∃ p ys, xs = [V.ref p] ∧ (SqL K H p ys ∨ SqT K H p ys) ∧ Q (.int ys.length) H) (tCons (tVar 1) tNil)))) { nx := fun _ H' => Q .non H', rt := Q } [some (.ref p), some (.ref t), some (.str AZ), some (.int (1 + d)), some (.str z), x] H' := by
      obtain ⟨c, hc, c0, c1⟩ := az_atI (i := ((ts.map V.str).length : Int)) (by omega) (by rw [List.length_map]; omega)
      refine ⟨_, rfl, _, rfl, t, _, rfl, .inl hS', _, _, c, rfl, rfl, az_len, hc, _, _, rfl, rfl, ?_, k _ H' ⟨?_, ?_, name_add (z := "zzzzzzz") (by decide +kernel) ⟨c0, c1⟩⟩ s3 P3⟩
      · show ("zzzzzzz" : Str).length + 1 ≤ sizeLine
        decide +kernel
      · rw [strLen_append]
        show 1 ≤ ("zzzzzzz" : Str).length + 1
        decide +kernel
      · rw [strLen_append]
        show ("zzzzzzz" : Str).length + 1 ≤ 8
        decide +kernel
    refine ite2 (fun _ => other) (fun _ => ?_)
    refine ⟨_, rfl, rfl, _, rfl, ?_⟩
    exact ite2 (fun _ => other) (fun _ => last)

abbrev s__law_same : Stmt := top 27
abbrev N__law_same : List Str := ["_law_a", "_law_b", "_law_x", "_law_y"]
theorem sc__law_same : FnScope N__law_same ["_law_a", "_law_b"] (defScope s__law_same) := ⟨rfl, rfl, rfl, by decide +kernel, rfl, by decide +kernel, by decide +kernel⟩
def spS : Nat → Sp
  | 0 => fun _ _ _ _ => False
  | n + 1 => fun vs H Q _ => ∃ (x y : V) (d : PyData), vs = [x, y] ∧ Rp M0 H n x d ∧ Rp M0 H n y d ∧ ∀ H', Ex H H' → Q (.bl true) H'
theorem ok_same0 {f : Addr} {fd : FuncData} : FnOk P w K mg base CX0 0 f fd ["_law_a", "_law_b"] (spS 0) :=
  ⟨fun vs H Q E h => (show False from h).elim, fun A outer s H args us vs Q E _ _ _ _ h => (show False from h).elim⟩
theorem ok_same1 (T : Txt K mg) {n : Nat} {f : Addr} {fd : FuncData} (F : Fun K "_law_same" "_law_same" s__law_same f fd) (D__law_same : Df P w K mg base n "_law_same" ["_law_a", "_law_b"] (spS n)) :
    FnOk P w K mg base CX0 (n + 1) f fd ["_law_a", "_law_b"] (spS (n + 1)) := by
  refine F.ok sc__law_same (fun vs H Q E h => ?_) (fun cdv A outer s H vs Q E hr h => ?_)
  · obtain ⟨x, y, d, rfl, _⟩ := h
    rfl
  obtain ⟨x, y, d, rfl, hx, hy, k⟩ := h
  refine ⟨_, (pss_cons (ps_if (pt_val (pe_callB call_isi (by rfl) T.b_isinstance (by decide +kernel) (pa_cons (pv 1) (pa_cons (pe_bltn (v := .ty "tuple") (by rfl) T.b_tuple (by decide +kernel) rfl) pa_nil)))) (pss_cons (ps_if (PW.pt (pw_or (pt_not (pt_val (pe_callB call_isi (by rfl) T.b_isinstance (by decide +kernel) (pa_cons (pv 0) (pa_cons (pe_bltn (v := .ty "tuple") (by rfl) T.b_tuple (by decide +kernel) rfl) pa_nil))))) (pw_or1 (pt_cmpR op_ne (pe_callB call_len_seq (by rfl) T.b_len (by decide +kernel) (pa_cons (pv 0) pa_nil)) (pe_callB call_len_seq (by rfl) T.b_len (by decide +kernel) (pa_cons (pv 1) pa_nil)) (nomark _))))) (pss_one (ps_ret pe_bl)) pss_nil)
  (pss_one (ps_ret (pe_callB (cr_all rfl) (by rfl) T.b_all (by decide +kernel) (pa_cons (pe_lc (own := [("_law_x", 2), ("_law_y", 3)]) (g := (gTup K 2 (gCons (gName 2) (gCons (gName 3) gNil)))) (tt := tYes) rfl sc__law_same.nd (RZ.pi_zipA (by rfl) T.b_zip (pa_cons (pv 0) (pa_cons (pv 1) pa_nil))) (blkOk_by (own := [("_law_x", 2), ("_law_y", 3)]) (N := N__law_same) (sc := defScope s__law_same) (by decide +kernel)) (fun _ _ _ _ _ => (pg_tup rfl (pgs_cons (pg_name (i := 2) sc__law_same.nd rfl (Or.inl rfl)) (pgs_cons (pg_name (i := 3) sc__law_same.nd rfl (Or.inl rfl)) pgs_nil)))) (fun _ _ _ _ _ => pts_nil) (fun _ _ _ _ _ => (pe_call D__law_same.G (hr.mono (by omega)) rfl D__law_same.m D__law_same.kp D__law_same.b .nil pass0 (pa_cons (pv 2) (pa_cons (pv 3) pa_nil))))) pa_nil))))) pss_nil)
  (pss_cons (ps_if (pt_val (pe_callB call_isi (by rfl) T.b_isinstance (by decide +kernel) (pa_cons (pv 1) (pa_cons (pe_bltn (v := .ty "list") (by rfl) T.b_list (by decide +kernel) rfl) pa_nil)))) (pss_cons (ps_if (PW.pt (pw_or (pt_not (pt_val (pe_callB call_isi (by rfl) T.b_isinstance (by decide +kernel) (pa_cons (pv 0) (pa_cons (pe_bltn (v := .ty "list") (by rfl) T.b_list (by decide +kernel) rfl) pa_nil))))) (pw_or1 (pt_cmpR op_ne (pe_callB call_len_seq (by rfl) T.b_len (by decide +kernel) (pa_cons (pv 0) pa_nil)) (pe_callB call_len_seq (by rfl) T.b_len (by decide +kernel) (pa_cons (pv 1) pa_nil)) (nomark _))))) (pss_one (ps_ret pe_bl)) pss_nil)
  (pss_one (ps_ret (pe_callB (cr_all rfl) (by rfl) T.b_all (by decide +kernel) (pa_cons (pe_lc (own := [("_law_x", 2), ("_law_y", 3)]) (g := (gTup K 2 (gCons (gName 2) (gCons (gName 3) gNil)))) (tt := tYes) rfl sc__law_same.nd (RZ.pi_zipA (by rfl) T.b_zip (pa_cons (pv 0) (pa_cons (pv 1) pa_nil))) (blkOk_by (own := [("_law_x", 2), ("_law_y", 3)]) (N := N__law_same) (sc := defScope s__law_same) (by decide +kernel)) (fun _ _ _ _ _ => (pg_tup rfl (pgs_cons (pg_name (i := 2) sc__law_same.nd rfl (Or.inl rfl)) (pgs_cons (pg_name (i := 3) sc__law_same.nd rfl (Or.inl rfl)) pgs_nil)))) (fun _ _ _ _ _ => pts_nil) (fun _ _ _ _ _ => (pe_call D__law_same.G (hr.mono (by omega)) rfl D__law_same.m D__law_same.kp D__law_same.b .nil pass0 (pa_cons (pv 2) (pa_cons (pv 3) pa_nil))))) pa_nil))))) pss_nil)
  (pss_cons (ps_if (pt_cmpR op_isN (pv 1) pe_non (nomark _)) (pss_one (ps_ret (pe_cmpR op_isN (pv 0) pe_non (nomark _)))) pss_nil)
  (pss_cons (ps_if (pt_val (pe_callB call_isi (by rfl) T.b_isinstance (by decide +kernel) (pa_cons (pv 1) (pa_cons (pe_bltn (v := .ty "bool") (by rfl) T.b_bool (by decide +kernel) rfl) pa_nil)))) (pss_one (ps_ret (pe_and (pe_callB call_isi (by rfl) T.b_isinstance (by decide +kernel) (pa_cons (pv 0) (pa_cons (pe_bltn (v := .ty "bool") (by rfl) T.b_bool (by decide +kernel) rfl) pa_nil))) (pe_one (pe_cmpR op_eq (pv 0) (pv 1) (nomark _)))))) pss_nil)
  (pss_cons (ps_if (pt_val (pe_callB call_isi (by rfl) T.b_isinstance (by decide +kernel) (pa_cons (pv 1) (pa_cons (pe_bltn (v := .ty "int") (by rfl) T.b_int (by decide +kernel) rfl) pa_nil)))) (pss_one (ps_ret (pe_and (pe_callB call_isi (by rfl) T.b_isinstance (by decide +kernel) (pa_cons (pv 0) (pa_cons (pe_bltn (v := .ty "int") (by rfl) T.b_int (by decide +kernel) rfl) pa_nil))) (pe_and (pe_not (pe_callB call_isi (by rfl) T.b_isinstance (by decide +kernel) (pa_cons (pv 0) (pa_cons (pe_bltn (v := .ty "bool") (by rfl) T.b_bool (by decide +kernel) rfl) pa_nil)))) (pe_one (pe_cmpR op_eq (pv 0) (pv 1) (nomark _))))))) pss_nil)
  (pss_one (ps_ret (pe_and (pe_callB call_isi (by rfl) T.b_isinstance (by decide +kernel) (pa_cons (pv 0) (pa_cons (pe_bltn (v := .ty "str") (by rfl) T.b_str (by decide +kernel) rfl) pa_nil))) (pe_one (pe_cmpR op_eq (pv 0) (pv 1) (nomark _))))))))))), ?_⟩
  -- a tuple
  refine q_when (et_B (ev_isi (ev_var rfl) hy (.inl rfl))) (fun hb H1 e1 => ?_) (fun hb H1 e1 => ?_)
  · cases d with
    | tuple ds =>
      cases n with
      | zero => cases x <;> exact hx.elim
      | succ n =>
      cases x with
      | ref a =>
        cases y with
        | ref b =>
          have hx1 := hx.ex e1
          have hy1 := hy.ex e1
          obtain ⟨xs, ha, _, pa, _⟩ := id hx1
          obtain ⟨ys, hb', _, pb, _⟩ := id hy1
          have hl : xs.length = ys.length := (pair_len pa).trans (pair_len pb).symm
          refine q_when (b := false) (et_is (et_or (et_not (et_B (ev_isi (ev_var rfl) hx1 (.inl rfl)))) fun _ => et_test (ev_op (ev_lenT (ev_var rfl) (st_of ha)) (ev_lenT (ev_var rfl) (st_of hb')) (rv_ne rfl))) (by rw [hl]; simp [isA])) (fun z => Bool.noConfusion z) (fun _ H2 e2 => ?_)
          refine ⟨_, rfl, _, rfl, a, b, xs, ys, rfl, .inr ⟨st_of (e2 _ _ ha), st_of (e2 _ _ hb'), fun D hD => ?_⟩⟩
          refine lc_it (walk_zipT (K := K) (a := a) (b := b) (xs := xs) (ys := ys) (n := xs.length) (by omega)) (fun i H3 => Ex H2 H3 ∧ H3 D = some (.lst ((List.replicate i true).map V.bl))) ⟨Ex.new hD, upd_same⟩ (fun i H3 _ z => ⟨st_of (z.1 _ _ (e2 _ _ ha)), st_of (z.1 _ _ (e2 _ _ hb'))⟩) ?_ ?_
          · rintro i v H3 H4 hi ⟨e3, hD3⟩ ⟨T, u1, u2, rfl, hT, rfl, h1, h2⟩
            obtain ⟨d1, g1, r1⟩ := pair_at pa h1
            obtain ⟨d2, g2, r2⟩ := pair_at pb h2
            rw [g1] at g2
            cases g2
            have eT : Ex H3 (upd H3 T (.tup [u1, u2])) := Ex.new hT
            refine ⟨T, _, rfl, st_of upd_same, rfl, _, _, rfl, _, _, rfl, rfl, rfl, ?_⟩
            refine yes_if ?_
            have eA : Ex H1 (upd H3 T (.tup [u1, u2])) := e2.trans (e3.trans eT)
            refine ⟨u1, rfl, u2, rfl, u1, u2, d1, rfl, r1.ex eA, r2.ex eA, fun H5 e5 => ?_⟩
            refine ⟨_, e5 _ _ (eT _ _ hD3), ?_, (e3.trans (eT.trans e5)).mut hD, ?_⟩
            · rw [List.length_map, List.length_replicate]
              have := hx1.choose_spec.2.1
              exact small1000 (by
                obtain ⟨xs', ha', hl', _⟩ := hx1
                rw [ha] at ha'
                cases ha'
                omega)
            · rw [upd_same, List.replicate_succ', List.map_append]
              rfl
          · rintro H3 ⟨e3, hD3⟩
            refine ⟨D, _, rfl, sq_of hD3, ?_⟩
            rw [all_yes]
            exact k _ (e1.trans (e2.trans e3))
        | _ => exact hy.elim
      | _ => exact hx.elim
    | _ => exact absurd hb (by simp [isA])
  -- a list
  refine q_when (et_B (ev_isi (ev_var rfl) (hy.ex e1) (.inr (.inl rfl)))) (fun hb2 H2 e2 => ?_) (fun hb2 H2 e2 => ?_)
  · cases d with
    | list ds =>
      cases n with
      | zero => cases x <;> exact hx.elim
      | succ n =>
      cases x with
      | ref a =>
        cases y with
        | ref b =>
          have hx1 := hx.ex (e1.trans e2)
          have hy1 := hy.ex (e1.trans e2)
          obtain ⟨xs, ha, hxl, pa, _⟩ := id hx1
          obtain ⟨ys, hb', _, pb, _⟩ := id hy1
          have hl : xs.length = ys.length := (pair_len pa).trans (pair_len pb).symm
          refine q_when (b := false) (et_is (et_or (et_not (et_B (ev_isi (ev_var rfl) hx1 (.inr (.inl rfl))))) fun _ => et_test (ev_op (ev_lenL (ev_var rfl) (sq_of ha)) (ev_lenL (ev_var rfl) (sq_of hb')) (rv_ne rfl))) (by rw [hl]; simp [isA])) (fun z => Bool.noConfusion z) (fun _ H3 e3 => ?_)
          refine ⟨_, rfl, _, rfl, a, b, xs, ys, rfl, .inl ⟨sq_of (e3 _ _ ha), sq_of (e3 _ _ hb'), fun D hD => ?_⟩⟩
          refine lc_it (walk_zip (K := K) (a := a) (b := b) (xs := xs) (ys := ys) (n := xs.length) (by omega)) (fun i H4 => Ex H3 H4 ∧ H4 D = some (.lst ((List.replicate i true).map V.bl))) ⟨Ex.new hD, upd_same⟩ (fun i H4 _ z => ⟨sq_of (z.1 _ _ (e3 _ _ ha)), sq_of (z.1 _ _ (e3 _ _ hb'))⟩) ?_ ?_
          · rintro i v H4 H5 hi ⟨e4, hD4⟩ ⟨T, u1, u2, rfl, hT, rfl, h1, h2⟩
            obtain ⟨d1, g1, r1⟩ := pair_at pa h1
            obtain ⟨d2, g2, r2⟩ := pair_at pb h2
            rw [g1] at g2
            cases g2
            have eT : Ex H4 (upd H4 T (.tup [u1, u2])) := Ex.new hT
            refine ⟨T, _, rfl, st_of upd_same, rfl, _, _, rfl, _, _, rfl, rfl, rfl, ?_⟩
            refine yes_if ?_
            have eA : Ex H2 (upd H4 T (.tup [u1, u2])) := e3.trans (e4.trans eT)
            refine ⟨u1, rfl, u2, rfl, u1, u2, d1, rfl, r1.ex eA, r2.ex eA, fun H6 e6 => ?_⟩
            refine ⟨_, e6 _ _ (eT _ _ hD4), ?_, (e4.trans (eT.trans e6)).mut hD, ?_⟩
            · rw [List.length_map, List.length_replicate]
              exact small1000 (by omega)
            · rw [upd_same, List.replicate_succ', List.map_append]
              rfl
          · rintro H4 ⟨e4, hD4⟩
            refine ⟨D, _, rfl, sq_of hD4, ?_⟩
            rw [all_yes]
            exact k _ ((e1.trans e2).trans (e3.trans e4))
        | _ => exact hy.elim
      | _ => exact hx.elim
    | _ => exact absurd hb2 (by simp [isA])
  -- what is no object
  have e12 := e1.trans e2
  have scalars : (d = .none ∧ x = .non ∧ y = .non) ∨ (∃ b, d = .bool b ∧ x = .bl b ∧ y = .bl b) ∨ (∃ i, d = .int i ∧ x = .int i ∧ y = .int i) ∨ ∃ i, d = .str i ∧ x = .str i ∧ y = .str i := by
    cases d with
    | tuple ds => exact absurd hb (by simp [isA])
    | list ds => exact absurd hb2 (by simp [isA])
    | none => cases n <;> cases x <;> cases y <;> first | exact .inl ⟨rfl, rfl, rfl⟩ | (exfalso; exact hx) | (exfalso; exact hy)
    | bool b => cases n <;> cases x <;> cases y <;> first | exact .inr (.inl ⟨b, rfl, congrArg V.bl hx, congrArg V.bl hy⟩) | (exfalso; exact hx) | (exfalso; exact hy)
    | int b => cases n <;> cases x <;> cases y <;> first | exact .inr (.inr (.inl ⟨b, rfl, congrArg V.int hx, congrArg V.int hy⟩)) | (exfalso; exact hx) | (exfalso; exact hy)
    | str b => cases n <;> cases x <;> cases y <;> first | exact .inr (.inr (.inr ⟨b, rfl, congrArg V.str hx, congrArg V.str hy⟩)) | (exfalso; exact hx) | (exfalso; exact hy)
    | dict kvs => cases n <;> cases x <;> (exfalso; exact hx)
  have isn : ∀ {v : V} {j : Nat} {σ2 : L2.St} {H2 : Hp}, σ2[j]? = some (some v) → Ev (tOp (fun x y H Q => y = V.non ∧ Q (.bl (decide (x = .non))) H) (tVar j) (tC .non)) σ2 H2 (.bl (decide (v = .non))) := fun h => ev_op (ev_var h) ev_c fun H3 _ Q q => ⟨rfl, q H3 (Ex.refl H3)⟩
  have hy2 := hy.ex e12
  have hx2 := hx.ex e12
  rcases scalars with ⟨rfl, rfl, rfl⟩ | ⟨b, rfl, rfl, rfl⟩ | ⟨i, rfl, rfl, rfl⟩ | ⟨i, rfl, rfl, rfl⟩
  · refine q_when (et_test (isn rfl)) (fun _ H3 e3 => ?_) (fun hb H3 e3 => absurd hb (by simp))
    exact s_ret (isn rfl) fun H4 e4 => k _ (e12.trans (e3.trans e4))
  · refine q_when (et_test (isn rfl)) (fun hb H3 e3 => absurd hb (by simp)) (fun _ H3 e3 => ?_)
    refine q_when (et_B (ev_isi (ev_var rfl) (hy2.ex e3) (.inr (.inr (.inl rfl))))) (fun _ H4 e4 => ?_) (fun hb H4 e4 => absurd hb (by simp [isA]))
    exact s_ret (v := .bl true) (ev_is (ev_andV (ev_isi (ev_var rfl) (hx2.ex (e3.trans e4)) (.inr (.inr (.inl rfl)))) fun _ => ev_op (ev_var rfl) (ev_var rfl) (rv_eq rfl)) (by simp [isA])) fun H5 e5 => k _ (e12.trans (e3.trans (e4.trans e5)))
  · refine q_when (et_test (isn rfl)) (fun hb H3 e3 => absurd hb (by simp)) (fun _ H3 e3 => ?_)
    refine q_when (et_B (ev_isi (ev_var rfl) (hy2.ex e3) (.inr (.inr (.inl rfl))))) (fun hb H4 e4 => absurd hb (by simp [isA])) (fun _ H4 e4 => ?_)
    refine q_when (et_B (ev_isi (ev_var rfl) (hy2.ex (e3.trans e4)) (.inr (.inr (.inr (.inl rfl)))))) (fun _ H5 e5 => ?_) (fun hb H5 e5 => absurd hb (by simp [isA]))
    have e35 := e3.trans (e4.trans e5)
    exact s_ret (v := .bl true) (ev_is (ev_andV (ev_isi (ev_var rfl) (hx2.ex e35) (.inr (.inr (.inr (.inl rfl))))) fun _ => ev_andV (ev_notV (ev_isi (ev_var rfl) (hx2.ex e35) (.inr (.inr (.inl rfl))))) fun _ => ev_op (ev_var rfl) (ev_var rfl) (rv_eq rfl)) (by simp [isA])) fun H6 e6 => k _ (e12.trans (e35.trans e6))
  · refine q_when (et_test (isn rfl)) (fun hb H3 e3 => absurd hb (by simp)) (fun _ H3 e3 => ?_)
    refine q_when (et_B (ev_isi (ev_var rfl) (hy2.ex e3) (.inr (.inr (.inl rfl))))) (fun hb H4 e4 => absurd hb (by simp [isA])) (fun _ H4 e4 => ?_)
    refine q_when (et_B (ev_isi (ev_var rfl) (hy2.ex (e3.trans e4)) (.inr (.inr (.inr (.inl rfl)))))) (fun hb H5 e5 => absurd hb (by simp [isA])) (fun _ H5 e5 => ?_)
    have e35 := e3.trans (e4.trans e5)
    exact s_ret (v := .bl true) (ev_is (ev_andV (ev_isi (ev_var rfl) (hx2.ex e35) (.inr (.inr (.inr (.inr (.inl rfl)))))) fun _ => ev_op (ev_var rfl) (ev_var rfl) (rv_eq rfl)) (by simp [isA])) fun H6 e6 => k _ (e12.trans (e35.trans e6))

abbrev s_copied : Stmt := top 1
abbrev N_copied : List Str := ["value", "item"]
theorem sc_copied : FnScope N_copied ["value"] (defScope s_copied) := ⟨rfl, rfl, rfl, by decide +kernel, rfl, by decide +kernel, by decide +kernel⟩
def spC : Nat → Sp
  | 0 => fun _ _ _ _ => False
  | n + 1 => fun vs H Q _ => ∃ (M : Addr → Prop) (x : V) (d : PyData), vs = [x] ∧ (∀ a, M a → H a ≠ none) ∧ Rp M H n x d ∧ ∀ v H', Ex H H' → Rp M H' n v d → Q v H'
theorem ok_copied0 {f : Addr} {fd : FuncData} : FnOk P w K mg base CX0 0 f fd ["value"] (spC 0) :=
  ⟨fun vs H Q E h => (show False from h).elim, fun A outer s H args us vs Q E _ _ _ _ h => (show False from h).elim⟩
theorem ok_copied1 (T : Txt K mg) {n : Nat} {f : Addr} {fd : FuncData} (F : Fun K "copied" "copied" s_copied f fd) (D_copied : Df P w K mg base n "copied" ["value"] (spC n)) :
    FnOk P w K mg base CX0 (n + 1) f fd ["value"] (spC (n + 1)) := by
  refine F.ok sc_copied (fun vs H Q E h => ?_) (fun cdv A outer s H vs Q E hr h => ?_)
  · obtain ⟨M, x, d, rfl, _⟩ := h
    rfl
  obtain ⟨M, x, d, rfl, hM, hx, k⟩ := h
  refine ⟨_, (pss_cons (ps_if (pt_val (pe_callB call_isi (by rfl) T.b_isinstance (by decide +kernel) (pa_cons (pv 0) (pa_cons (pe_bltn (v := .ty "list") (by rfl) T.b_list (by decide +kernel) rfl) pa_nil)))) (pss_one (ps_ret (pe_lc (own := [("item", 1)]) (g := (gName 1)) (tt := tYes) rfl sc_copied.nd (pi_list (pv 0)) (blkOk_by (own := [("item", 1)]) (N := N_copied) (sc := defScope s_copied) (by decide +kernel)) (fun _ _ _ _ _ => (pg_name (i := 1) sc_copied.nd rfl (Or.inl rfl))) (fun _ _ _ _ _ => pts_nil) (fun _ _ _ _ _ => (pe_call D_copied.G (hr.mono (by omega)) rfl D_copied.m D_copied.kp D_copied.b .nil pass0 (pa_cons (pv 1) pa_nil)))))) pss_nil)
  (pss_cons (ps_if (pt_val (pe_callB call_isi (by rfl) T.b_isinstance (by decide +kernel) (pa_cons (pv 0) (pa_cons (pe_bltn (v := .ty "tuple") (by rfl) T.b_tuple (by decide +kernel) rfl) pa_nil)))) (pss_one (ps_ret (pe_callTy call_tuple_of (by rfl) T.b_tuple (by decide +kernel) (pa_cons (pe_lc (own := [("item", 1)]) (g := (gName 1)) (tt := tYes) rfl sc_copied.nd (pi_tup (pv 0)) (blkOk_by (own := [("item", 1)]) (N := N_copied) (sc := defScope s_copied) (by decide +kernel)) (fun _ _ _ _ _ => (pg_name (i := 1) sc_copied.nd rfl (Or.inl rfl))) (fun _ _ _ _ _ => pts_nil) (fun _ _ _ _ _ => (pe_call D_copied.G (hr.mono (by omega)) rfl D_copied.m D_copied.kp D_copied.b .nil pass0 (pa_cons (pv 1) pa_nil)))) pa_nil)))) pss_nil)
  (pss_cons (ps_if (pt_val (pe_callB call_isi (by rfl) T.b_isinstance (by decide +kernel) (pa_cons (pv 0) (pa_cons (pe_bltn (v := .ty "dict") (by rfl) T.b_dict (by decide +kernel) rfl) pa_nil)))) (pss_one ps_never) pss_nil)
  (pss_one (ps_ret (pv 0)))))), ?_⟩
  have live : ∀ {H1 : Hp}, Ex H H1 → ∀ a, M a → H1 a ≠ none := fun e a z q => by
    cases h1 : H a with
    | none => exact hM a z h1
    | some o =>
      rw [e _ _ h1] at q
      cases q
  refine q_when (et_B (ev_isi (ev_var rfl) hx (.inr (.inl rfl)))) (fun hb H1 e1 => ?_) (fun hb H1 e1 => ?_)
  · cases d with
    | list ds =>
      cases n with
      | zero => cases x <;> exact hx.elim
      | succ n =>
      cases x with
      | ref a =>
        have hx1 := hx.ex e1
        obtain ⟨xs, ha, hxl, pa, hMa⟩ := id hx1
        refine ret_ (lcL (K := K) (a := a) (xs := xs) (M := M) (n := n) (ds := ds) (ev_var rfl) ha (live e1) hxl (pair_len pa).symm (fun _ => rfl) ?_ ?_)
        · intro i v d1 H2 M' hv hd e2 _ l2 n2 Q' k'
          obtain ⟨d1', g1, r1⟩ := pair_at pa hv
          rw [hd] at g1
          cases g1
          exact ⟨v, rfl, M', v, d1, rfl, l2, (r1.addM n2).ex e2, k'⟩
        · intro D H2 acc hD e2 hacc hal hpa hMD
          exact k _ _ (e1.trans e2) ⟨acc, hacc, by omega, hpa, hMD⟩
      | _ => exact hx.elim
    | _ => exact absurd hb (by simp [isA])
  refine q_when (et_B (ev_isi (ev_var rfl) (hx.ex e1) (.inl rfl))) (fun hb2 H2 e2 => ?_) (fun hb2 H2 e2 => ?_)
  · cases d with
    | tuple ds =>
      cases n with
      | zero => cases x <;> exact hx.elim
      | succ n =>
      cases x with
      | ref a =>
        have hx1 := hx.ex (e1.trans e2)
        obtain ⟨xs, ha, hxl, pa, hMa⟩ := id hx1
        refine ret_ (cb1 (lcT (K := K) (a := a) (xs := xs) (M := M) (n := n) (ds := ds) (ev_var rfl) ha (live (e1.trans e2)) hxl (pair_len pa).symm (fun _ => rfl) ?_ ?_))
        · intro i v d1 H3 M' hv hd e3 _ l3 n3 Q' k'
          obtain ⟨d1', g1, r1⟩ := pair_at pa hv
          rw [hd] at g1
          cases g1
          exact ⟨v, rfl, M', v, d1, rfl, l3, (r1.addM n3).ex e3, k'⟩
        · intro D H3 acc hD e3 hacc hal hpa hMD
          refine ⟨D, acc, rfl, .inl ⟨sq_of hacc, fun l hl => ?_⟩⟩
          have e03 := (e1.trans e2).trans e3
          exact k _ _ (e03.trans (Ex.new hl)) ⟨acc, upd_same, by omega, Paired.mapP hpa fun _ _ z => z.ex (Ex.new hl), fun z => live e03 l z hl⟩
      | _ => exact hx.elim
    | _ => exact absurd hb2 (by simp [isA])
  have e12 := e1.trans e2
  refine q_when (b := false) (et_is (et_B (ev_isi (ev_var rfl) (hx.ex e12) (.inr (.inr (.inr (.inr (.inr rfl))))))) ?_) (fun z => Bool.noConfusion z) (fun _ H3 e3 => ?_)
  · cases d with
    | dict kvs => cases n <;> cases x <;> exact hx.elim
    | _ => rfl
  exact s_ret (ev_var rfl) fun H4 e4 => k _ _ (e12.trans (e3.trans e4)) (hx.ex (e12.trans (e3.trans e4)))

abbrev s_InvalidGraph___init__ : Stmt := inClass (top 4) 0
abbrev N_InvalidGraph___init__ : List Str := ["self", "part", "path"]
theorem sc_InvalidGraph___init__ : FnScope N_InvalidGraph___init__ ["self", "part", "path"] (defScope s_InvalidGraph___init__) := ⟨rfl, rfl, rfl, by decide +kernel, rfl, by decide +kernel, by decide +kernel⟩
theorem ok_InvalidGraph (T : Txt K mg) {C S : Addr} (x : XC K C S) (sup : Sup K mg "SwapError" S) (n_part : PySem.W.findIn K (.ref C) "part" = some none) (n_path : PySem.W.findIn K (.ref C) "path" = some none) {f : Addr} {fd : FuncData} (F : Fun K "__init__" "InvalidGraph.__init__" s_InvalidGraph___init__ f fd) :
    FnOk P w K mg base CX0 1 f fd ["self", "part", "path"] (spE C ["part", "path"] [1, 3]) := by
  refine F.ok sc_InvalidGraph___init__ (fun vs H Q E h => ?_) (fun cdv A outer s H vs Q E hr h => ?_)
  · obtain ⟨a, args, ds, rfl, _, _, _, hl, _⟩ := h
    exact congrArg (· + 1) hl
  obtain ⟨a, args, ds, rfl, ha, hr1, hk, hlen, k⟩ := h
  cases hk with
  | @cons _ d0 _ ds0 k0 hk =>
  cases hr1 with
  | @cons v0 _ _ _ r0 hr1 =>
  cases hk with
  | @cons _ d1 _ ds1 k1 hk =>
  cases hr1 with
  | @cons v1 _ _ _ r1 hr1 =>
  cases hk
  cases hr1
  obtain ⟨z0, rfl, hz0⟩ := ok1 k0 r0
  obtain ⟨b1, l1, rfl, hb1, hz1, hy1⟩ := ok3 k1 r1
  refine ⟨_, (pss_cons (ps_expr (pe_sinit (by rfl) sup (pa_cons (pv 0) (pa_cons (pe_joined (PJ.cons pe_str (PJ.cons (pe_fmt (pv 1)) (PJ.cons pe_str (PJ.cons ((pe_fmtI hr) (pv 2)) PJ.nil))))) pa_nil))))
  (pss_cons (ps_ost (pv 0) (pv 1))
  (pss_one (ps_ost (pv 0) (pv 2))))), ?_⟩
  refine seq_drop ⟨_, rfl, js_ok (fun out => ⟨a, C, [.str out], rfl, (by show 1 ≤ 1000; decide), x.oex, ha, ?_⟩) _ _ (fun t ht => ?_) (by show 0 + 3000000 * 4 ≤ 16777216; decide)⟩
  · simp only [List.mem_cons, List.not_mem_nil, or_false] at ht
    rcases ht with rfl | rfl | rfl | rfl
    · exact part_c (by decide +kernel)
    · exact part_s (i := 1) rfl hz0
    · exact part_c (by decide +kernel)
    · exact part_t (K := K) (i := 2) rfl hb1 hz1 hy1
  · refine ⟨_, rfl, _, rfl, a, C, rfl, x.oex, n_part, .inl ⟨ha, fun dx hdx hne => ?_⟩⟩
    refine ⟨_, rfl, _, rfl, a, C, rfl, x.oex, n_path, .inr ⟨dx, [("part", _)], upd_same, by rw [upd_ne hne, upd_same], by show 1 ≤ 900; decide, ?_⟩⟩
    have hh := held2 (f := "part") (g := "path") (Ex.refl H) ha hdx hne (by decide +kernel) r0 r1
    exact k _ hh.1 hh.2

abbrev s_InvalidRule___init__ : Stmt := inClass (top 5) 0
abbrev N_InvalidRule___init__ : List Str := ["self", "path"]
theorem sc_InvalidRule___init__ : FnScope N_InvalidRule___init__ ["self", "path"] (defScope s_InvalidRule___init__) := ⟨rfl, rfl, rfl, by decide +kernel, rfl, by decide +kernel, by decide +kernel⟩
theorem ok_InvalidRule (T : Txt K mg) {C S : Addr} (x : XC K C S) (sup : Sup K mg "SwapError" S) (n_path : PySem.W.findIn K (.ref C) "path" = some none) {f : Addr} {fd : FuncData} (F : Fun K "__init__" "InvalidRule.__init__" s_InvalidRule___init__ f fd) :
    FnOk P w K mg base CX0 1 f fd ["self", "path"] (spE C ["path"] [3]) := by
  refine F.ok sc_InvalidRule___init__ (fun vs H Q E h => ?_) (fun cdv A outer s H vs Q E hr h => ?_)
  · obtain ⟨a, args, ds, rfl, _, _, _, hl, _⟩ := h
    exact congrArg (· + 1) hl
  obtain ⟨a, args, ds, rfl, ha, hr1, hk, hlen, k⟩ := h
  cases hk with
  | @cons _ d0 _ ds0 k0 hk =>
  cases hr1 with
  | @cons v0 _ _ _ r0 hr1 =>
  cases hk
  cases hr1
  obtain ⟨b0, l0, rfl, hb0, hz0, hy0⟩ := ok3 k0 r0
  refine ⟨_, (pss_cons (ps_expr (pe_sinit (by rfl) sup (pa_cons (pv 0) (pa_cons (pe_joined (PJ.cons pe_str (PJ.cons ((pe_fmtI hr) (pv 1)) PJ.nil))) pa_nil))))
  (pss_one (ps_ost (pv 0) (pv 1)))), ?_⟩
  refine seq_drop ⟨_, rfl, js_ok (fun out => ⟨a, C, [.str out], rfl, (by show 1 ≤ 1000; decide), x.oex, ha, ?_⟩) _ _ (fun t ht => ?_) (by show 0 + 3000000 * 2 ≤ 16777216; decide)⟩
  · simp only [List.mem_cons, List.not_mem_nil, or_false] at ht
    rcases ht with rfl | rfl
    · exact part_c (by decide +kernel)
    · exact part_t (K := K) (i := 1) rfl hb0 hz0 hy0
  · refine ⟨_, rfl, _, rfl, a, C, rfl, x.oex, n_path, .inl ⟨ha, fun dx hdx hne => ?_⟩⟩
    have hh := held1 (f := "path") (Ex.refl H) ha hdx hne r0
    exact k _ hh.1 hh.2

abbrev s_InvalidSources___init__ : Stmt := inClass (top 6) 0
abbrev N_InvalidSources___init__ : List Str := ["self", "sources"]
theorem sc_InvalidSources___init__ : FnScope N_InvalidSources___init__ ["self", "sources"] (defScope s_InvalidSources___init__) := ⟨rfl, rfl, rfl, by decide +kernel, rfl, by decide +kernel, by decide +kernel⟩
theorem ok_InvalidSources (T : Txt K mg) {C S : Addr} (x : XC K C S) (sup : Sup K mg "SwapError" S) (n_sources : PySem.W.findIn K (.ref C) "sources" = some none) (D_copied : Df P w K mg base 2 "copied" ["value"] (spC 2)) {f : Addr} {fd : FuncData} (F : Fun K "__init__" "InvalidSources.__init__" s_InvalidSources___init__ f fd) :
    FnOk P w K mg base CX0 3 f fd ["self", "sources"] (spE C ["sources"] [0]) := by
  refine F.ok sc_InvalidSources___init__ (fun vs H Q E h => ?_) (fun cdv A outer s H vs Q E hr h => ?_)
  · obtain ⟨a, args, ds, rfl, _, _, _, hl, _⟩ := h
    exact congrArg (· + 1) hl
  obtain ⟨a, args, ds, rfl, ha, hr1, hk, hlen, k⟩ := h
  cases hk with
  | @cons _ d0 _ ds0 k0 hk =>
  cases hr1 with
  | @cons v0 _ _ _ r0 hr1 =>
  cases hk
  cases hr1
  refine ⟨_, (pss_cons (ps_expr (pe_sinit (by rfl) sup (pa_cons (pv 0) (pa_cons pe_str pa_nil))))
  (pss_one (ps_ost (pv 0) (pe_call D_copied.G (hr.mono (by omega)) rfl D_copied.m D_copied.kp D_copied.b .nil pass0 (pa_cons (pv 1) pa_nil))))), ?_⟩
  refine seq_drop ⟨_, rfl, a, C, [_], rfl, (by show 1 ≤ 1000; decide), x.oex, ha, ?_⟩
  refine ⟨v0, rfl, M0, v0, d0, rfl, fun _ z => z.elim, r0, fun v1 H1 e1 r1 => ⟨_, rfl, a, C, rfl, x.oex, n_sources, .inl ⟨e1 _ _ ha, fun dx hdx hne => ?_⟩⟩⟩
  have hh := held1 (f := "sources") e1 (e1 _ _ ha) hdx hne r1
  exact k _ hh.1 hh.2

abbrev s_NoModule___init__ : Stmt := inClass (top 7) 0
abbrev N_NoModule___init__ : List Str := ["self", "name"]
theorem sc_NoModule___init__ : FnScope N_NoModule___init__ ["self", "name"] (defScope s_NoModule___init__) := ⟨rfl, rfl, rfl, by decide +kernel, rfl, by decide +kernel, by decide +kernel⟩
theorem ok_NoModule (T : Txt K mg) {C S : Addr} (x : XC K C S) (sup : Sup K mg "SwapError" S) (n_name : PySem.W.findIn K (.ref C) "name" = some none) (D_copied : Df P w K mg base 2 "copied" ["value"] (spC 2)) {f : Addr} {fd : FuncData} (F : Fun K "__init__" "NoModule.__init__" s_NoModule___init__ f fd) :
    FnOk P w K mg base CX0 3 f fd ["self", "name"] (spE C ["name"] [0]) := by
  refine F.ok sc_NoModule___init__ (fun vs H Q E h => ?_) (fun cdv A outer s H vs Q E hr h => ?_)
  · obtain ⟨a, args, ds, rfl, _, _, _, hl, _⟩ := h
    exact congrArg (· + 1) hl
  obtain ⟨a, args, ds, rfl, ha, hr1, hk, hlen, k⟩ := h
  cases hk with
  | @cons _ d0 _ ds0 k0 hk =>
  cases hr1 with
  | @cons v0 _ _ _ r0 hr1 =>
  cases hk
  cases hr1
  refine ⟨_, (pss_cons (ps_expr (pe_sinit (by rfl) sup (pa_cons (pv 0) (pa_cons pe_str pa_nil))))
  (pss_one (ps_ost (pv 0) (pe_call D_copied.G (hr.mono (by omega)) rfl D_copied.m D_copied.kp D_copied.b .nil pass0 (pa_cons (pv 1) pa_nil))))), ?_⟩
  refine seq_drop ⟨_, rfl, a, C, [_], rfl, (by show 1 ≤ 1000; decide), x.oex, ha, ?_⟩
  refine ⟨v0, rfl, M0, v0, d0, rfl, fun _ z => z.elim, r0, fun v1 H1 e1 r1 => ⟨_, rfl, a, C, rfl, x.oex, n_name, .inl ⟨e1 _ _ ha, fun dx hdx hne => ?_⟩⟩⟩
  have hh := held1 (f := "name") e1 (e1 _ _ ha) hdx hne r1
  exact k _ hh.1 hh.2

abbrev s_BadDeed___init__ : Stmt := inClass (top 8) 0
abbrev N_BadDeed___init__ : List Str := ["self", "deed"]
theorem sc_BadDeed___init__ : FnScope N_BadDeed___init__ ["self", "deed"] (defScope s_BadDeed___init__) := ⟨rfl, rfl, rfl, by decide +kernel, rfl, by decide +kernel, by decide +kernel⟩
theorem ok_BadDeed (T : Txt K mg) {C S : Addr} (x : XC K C S) (sup : Sup K mg "SwapError" S) (n_deed : PySem.W.findIn K (.ref C) "deed" = some none) (D_copied : Df P w K mg base 2 "copied" ["value"] (spC 2)) {f : Addr} {fd : FuncData} (F : Fun K "__init__" "BadDeed.__init__" s_BadDeed___init__ f fd) :
    FnOk P w K mg base CX0 3 f fd ["self", "deed"] (spE C ["deed"] [0]) := by
  refine F.ok sc_BadDeed___init__ (fun vs H Q E h => ?_) (fun cdv A outer s H vs Q E hr h => ?_)
  · obtain ⟨a, args, ds, rfl, _, _, _, hl, _⟩ := h
    exact congrArg (· + 1) hl
  obtain ⟨a, args, ds, rfl, ha, hr1, hk, hlen, k⟩ := h
  cases hk with
  | @cons _ d0 _ ds0 k0 hk =>
  cases hr1 with
  | @cons v0 _ _ _ r0 hr1 =>
  cases hk
  cases hr1
  refine ⟨_, (pss_cons (ps_expr (pe_sinit (by rfl) sup (pa_cons (pv 0) (pa_cons pe_str pa_nil))))
  (pss_one (ps_ost (pv 0) (pe_call D_copied.G (hr.mono (by omega)) rfl D_copied.m D_copied.kp D_copied.b .nil pass0 (pa_cons (pv 1) pa_nil))))), ?_⟩
  refine seq_drop ⟨_, rfl, a, C, [_], rfl, (by show 1 ≤ 1000; decide), x.oex, ha, ?_⟩
  refine ⟨v0, rfl, M0, v0, d0, rfl, fun _ z => z.elim, r0, fun v1 H1 e1 r1 => ⟨_, rfl, a, C, rfl, x.oex, n_deed, .inl ⟨e1 _ _ ha, fun dx hdx hne => ?_⟩⟩⟩
  have hh := held1 (f := "deed") e1 (e1 _ _ ha) hdx hne r1
  exact k _ hh.1 hh.2

abbrev s_TooMany___init__ : Stmt := inClass (top 9) 0
abbrev N_TooMany___init__ : List Str := ["self", "what"]
theorem sc_TooMany___init__ : FnScope N_TooMany___init__ ["self", "what"] (defScope s_TooMany___init__) := ⟨rfl, rfl, rfl, by decide +kernel, rfl, by decide +kernel, by decide +kernel⟩
theorem ok_TooMany (T : Txt K mg) {C S : Addr} (x : XC K C S) (sup : Sup K mg "SwapError" S) (n_what : PySem.W.findIn K (.ref C) "what" = some none) {f : Addr} {fd : FuncData} (F : Fun K "__init__" "TooMany.__init__" s_TooMany___init__ f fd) :
    FnOk P w K mg base CX0 1 f fd ["self", "what"] (spE C ["what"] [1]) := by
  refine F.ok sc_TooMany___init__ (fun vs H Q E h => ?_) (fun cdv A outer s H vs Q E hr h => ?_)
  · obtain ⟨a, args, ds, rfl, _, _, _, hl, _⟩ := h
    exact congrArg (· + 1) hl
  obtain ⟨a, args, ds, rfl, ha, hr1, hk, hlen, k⟩ := h
  cases hk with
  | @cons _ d0 _ ds0 k0 hk =>
  cases hr1 with
  | @cons v0 _ _ _ r0 hr1 =>
  cases hk
  cases hr1
  obtain ⟨z0, rfl, hz0⟩ := ok1 k0 r0
  refine ⟨_, (pss_cons (ps_expr (pe_sinit (by rfl) sup (pa_cons (pv 0) (pa_cons (pe_joined (PJ.cons pe_str (PJ.cons (pe_fmt (pv 1)) PJ.nil))) pa_nil))))
  (pss_one (ps_ost (pv 0) (pv 1)))), ?_⟩
  refine seq_drop ⟨_, rfl, js_ok (fun out => ⟨a, C, [.str out], rfl, (by show 1 ≤ 1000; decide), x.oex, ha, ?_⟩) _ _ (fun t ht => ?_) (by show 0 + 3000000 * 2 ≤ 16777216; decide)⟩
  · simp only [List.mem_cons, List.not_mem_nil, or_false] at ht
    rcases ht with rfl | rfl
    · exact part_c (by decide +kernel)
    · exact part_s (i := 1) rfl hz0
  · refine ⟨_, rfl, _, rfl, a, C, rfl, x.oex, n_what, .inl ⟨ha, fun dx hdx hne => ?_⟩⟩
    have hh := held1 (f := "what") (Ex.refl H) ha hdx hne r0
    exact k _ hh.1 hh.2

abbrev s_NotAState___init__ : Stmt := inClass (top 10) 0
abbrev N_NotAState___init__ : List Str := ["self"]
theorem sc_NotAState___init__ : FnScope N_NotAState___init__ ["self"] (defScope s_NotAState___init__) := ⟨rfl, rfl, rfl, by decide +kernel, rfl, by decide +kernel, by decide +kernel⟩
theorem ok_NotAState (T : Txt K mg) {C S : Addr} (x : XC K C S) (sup : Sup K mg "SwapError" S)  {f : Addr} {fd : FuncData} (F : Fun K "__init__" "NotAState.__init__" s_NotAState___init__ f fd) :
    FnOk P w K mg base CX0 1 f fd ["self"] (spE C [] []) := by
  refine F.ok sc_NotAState___init__ (fun vs H Q E h => ?_) (fun cdv A outer s H vs Q E hr h => ?_)
  · obtain ⟨a, args, ds, rfl, _, _, _, hl, _⟩ := h
    exact congrArg (· + 1) hl
  obtain ⟨a, args, ds, rfl, ha, hr1, hk, hlen, k⟩ := h
  cases hk
  cases hr1
  refine ⟨_, (pss_one (ps_expr (pe_sinit (by rfl) sup (pa_cons (pv 0) (pa_cons pe_str pa_nil))))), ?_⟩
  refine drop_ ⟨_, rfl, a, C, [_], rfl, (by show 1 ≤ 1000; decide), x.oex, ha, ?_⟩
  have hh := held0 ha
  exact k _ hh.1 hh.2

abbrev s_NothingToUndo___init__ : Stmt := inClass (top 11) 0
abbrev N_NothingToUndo___init__ : List Str := ["self"]
theorem sc_NothingToUndo___init__ : FnScope N_NothingToUndo___init__ ["self"] (defScope s_NothingToUndo___init__) := ⟨rfl, rfl, rfl, by decide +kernel, rfl, by decide +kernel, by decide +kernel⟩
theorem ok_NothingToUndo (T : Txt K mg) {C S : Addr} (x : XC K C S) (sup : Sup K mg "SwapError" S)  {f : Addr} {fd : FuncData} (F : Fun K "__init__" "NothingToUndo.__init__" s_NothingToUndo___init__ f fd) :
    FnOk P w K mg base CX0 1 f fd ["self"] (spE C [] []) := by
  refine F.ok sc_NothingToUndo___init__ (fun vs H Q E h => ?_) (fun cdv A outer s H vs Q E hr h => ?_)
  · obtain ⟨a, args, ds, rfl, _, _, _, hl, _⟩ := h
    exact congrArg (· + 1) hl
  obtain ⟨a, args, ds, rfl, ha, hr1, hk, hlen, k⟩ := h
  cases hk
  cases hr1
  refine ⟨_, (pss_one (ps_expr (pe_sinit (by rfl) sup (pa_cons (pv 0) (pa_cons pe_str pa_nil))))), ?_⟩
  refine drop_ ⟨_, rfl, a, C, [_], rfl, (by show 1 ≤ 1000; decide), x.oex, ha, ?_⟩
  have hh := held0 ha
  exact k _ hh.1 hh.2

abbrev s_BatchRefused___init__ : Stmt := inClass (top 12) 0
abbrev N_BatchRefused___init__ : List Str := ["self", "index"]
theorem sc_BatchRefused___init__ : FnScope N_BatchRefused___init__ ["self", "index"] (defScope s_BatchRefused___init__) := ⟨rfl, rfl, rfl, by decide +kernel, rfl, by decide +kernel, by decide +kernel⟩
theorem ok_BatchRefused (T : Txt K mg) {C S : Addr} (x : XC K C S) (sup : Sup K mg "SwapError" S) (n_index : PySem.W.findIn K (.ref C) "index" = some none) {f : Addr} {fd : FuncData} (F : Fun K "__init__" "BatchRefused.__init__" s_BatchRefused___init__ f fd) :
    FnOk P w K mg base CX0 1 f fd ["self", "index"] (spE C ["index"] [2]) := by
  refine F.ok sc_BatchRefused___init__ (fun vs H Q E h => ?_) (fun cdv A outer s H vs Q E hr h => ?_)
  · obtain ⟨a, args, ds, rfl, _, _, _, hl, _⟩ := h
    exact congrArg (· + 1) hl
  obtain ⟨a, args, ds, rfl, ha, hr1, hk, hlen, k⟩ := h
  cases hk with
  | @cons _ d0 _ ds0 k0 hk =>
  cases hr1 with
  | @cons v0 _ _ _ r0 hr1 =>
  cases hk
  cases hr1
  obtain ⟨z0, rfl, hz0⟩ := ok2 k0 r0
  refine ⟨_, (pss_cons (ps_expr (pe_sinit (by rfl) sup (pa_cons (pv 0) (pa_cons (pe_joined (PJ.cons pe_str (PJ.cons (pe_fmt (pv 1)) (PJ.cons pe_str PJ.nil)))) pa_nil))))
  (pss_one (ps_ost (pv 0) (pv 1)))), ?_⟩
  refine seq_drop ⟨_, rfl, js_ok (fun out => ⟨a, C, [.str out], rfl, (by show 1 ≤ 1000; decide), x.oex, ha, ?_⟩) _ _ (fun t ht => ?_) (by show 0 + 3000000 * 3 ≤ 16777216; decide)⟩
  · simp only [List.mem_cons, List.not_mem_nil, or_false] at ht
    rcases ht with rfl | rfl | rfl
    · exact part_c (by decide +kernel)
    · exact part_i (i := 1) rfl hz0
    · exact part_c (by decide +kernel)
  · refine ⟨_, rfl, _, rfl, a, C, rfl, x.oex, n_index, .inl ⟨ha, fun dx hdx hne => ?_⟩⟩
    have hh := held1 (f := "index") (Ex.refl H) ha hdx hne r0
    exact k _ hh.1 hh.2

abbrev s_BadLimit___init__ : Stmt := inClass (top 13) 0
abbrev N_BadLimit___init__ : List Str := ["self", "limit"]
theorem sc_BadLimit___init__ : FnScope N_BadLimit___init__ ["self", "limit"] (defScope s_BadLimit___init__) := ⟨rfl, rfl, rfl, by decide +kernel, rfl, by decide +kernel, by decide +kernel⟩
theorem ok_BadLimit (T : Txt K mg) {C S : Addr} (x : XC K C S) (sup : Sup K mg "SwapError" S) (n_limit : PySem.W.findIn K (.ref C) "limit" = some none) (D_copied : Df P w K mg base 2 "copied" ["value"] (spC 2)) {f : Addr} {fd : FuncData} (F : Fun K "__init__" "BadLimit.__init__" s_BadLimit___init__ f fd) :
    FnOk P w K mg base CX0 3 f fd ["self", "limit"] (spE C ["limit"] [0]) := by
  refine F.ok sc_BadLimit___init__ (fun vs H Q E h => ?_) (fun cdv A outer s H vs Q E hr h => ?_)
  · obtain ⟨a, args, ds, rfl, _, _, _, hl, _⟩ := h
    exact congrArg (· + 1) hl
  obtain ⟨a, args, ds, rfl, ha, hr1, hk, hlen, k⟩ := h
  cases hk with
  | @cons _ d0 _ ds0 k0 hk =>
  cases hr1 with
  | @cons v0 _ _ _ r0 hr1 =>
  cases hk
  cases hr1
  refine ⟨_, (pss_cons (ps_expr (pe_sinit (by rfl) sup (pa_cons (pv 0) (pa_cons pe_str pa_nil))))
  (pss_one (ps_ost (pv 0) (pe_call D_copied.G (hr.mono (by omega)) rfl D_copied.m D_copied.kp D_copied.b .nil pass0 (pa_cons (pv 1) pa_nil))))), ?_⟩
  refine seq_drop ⟨_, rfl, a, C, [_], rfl, (by show 1 ≤ 1000; decide), x.oex, ha, ?_⟩
  refine ⟨v0, rfl, M0, v0, d0, rfl, fun _ z => z.elim, r0, fun v1 H1 e1 r1 => ⟨_, rfl, a, C, rfl, x.oex, n_limit, .inl ⟨e1 _ _ ha, fun dx hdx hne => ?_⟩⟩⟩
  have hh := held1 (f := "limit") e1 (e1 _ _ ha) hdx hne r1
  exact k _ hh.1 hh.2

abbrev s_TooManyStates___init__ : Stmt := inClass (top 14) 0
abbrev N_TooManyStates___init__ : List Str := ["self", "limit"]
theorem sc_TooManyStates___init__ : FnScope N_TooManyStates___init__ ["self", "limit"] (defScope s_TooManyStates___init__) := ⟨rfl, rfl, rfl, by decide +kernel, rfl, by decide +kernel, by decide +kernel⟩
theorem ok_TooManyStates (T : Txt K mg) {C S : Addr} (x : XC K C S) (sup : Sup K mg "SwapError" S) (n_limit : PySem.W.findIn K (.ref C) "limit" = some none) {f : Addr} {fd : FuncData} (F : Fun K "__init__" "TooManyStates.__init__" s_TooManyStates___init__ f fd) :
    FnOk P w K mg base CX0 1 f fd ["self", "limit"] (spE C ["limit"] [2]) := by
  refine F.ok sc_TooManyStates___init__ (fun vs H Q E h => ?_) (fun cdv A outer s H vs Q E hr h => ?_)
  · obtain ⟨a, args, ds, rfl, _, _, _, hl, _⟩ := h
    exact congrArg (· + 1) hl
  obtain ⟨a, args, ds, rfl, ha, hr1, hk, hlen, k⟩ := h
  cases hk with
  | @cons _ d0 _ ds0 k0 hk =>
  cases hr1 with
  | @cons v0 _ _ _ r0 hr1 =>
  cases hk
  cases hr1
  obtain ⟨z0, rfl, hz0⟩ := ok2 k0 r0
  refine ⟨_, (pss_cons (ps_expr (pe_sinit (by rfl) sup (pa_cons (pv 0) (pa_cons (pe_joined (PJ.cons pe_str (PJ.cons (pe_fmt (pv 1)) (PJ.cons pe_str PJ.nil)))) pa_nil))))
  (pss_one (ps_ost (pv 0) (pv 1)))), ?_⟩
  refine seq_drop ⟨_, rfl, js_ok (fun out => ⟨a, C, [.str out], rfl, (by show 1 ≤ 1000; decide), x.oex, ha, ?_⟩) _ _ (fun t ht => ?_) (by show 0 + 3000000 * 3 ≤ 16777216; decide)⟩
  · simp only [List.mem_cons, List.not_mem_nil, or_false] at ht
    rcases ht with rfl | rfl | rfl
    · exact part_c (by decide +kernel)
    · exact part_i (i := 1) rfl hz0
    · exact part_c (by decide +kernel)
  · refine ⟨_, rfl, _, rfl, a, C, rfl, x.oex, n_limit, .inl ⟨ha, fun dx hdx hne => ?_⟩⟩
    have hh := held1 (f := "limit") (Ex.refl H) ha hdx hne r0
    exact k _ hh.1 hh.2

abbrev s_BadFault___init__ : Stmt := inClass (top 15) 0
abbrev N_BadFault___init__ : List Str := ["self", "fault"]
theorem sc_BadFault___init__ : FnScope N_BadFault___init__ ["self", "fault"] (defScope s_BadFault___init__) := ⟨rfl, rfl, rfl, by decide +kernel, rfl, by decide +kernel, by decide +kernel⟩
theorem ok_BadFault (T : Txt K mg) {C S : Addr} (x : XC K C S) (sup : Sup K mg "SwapError" S) (n_fault : PySem.W.findIn K (.ref C) "fault" = some none) (D_copied : Df P w K mg base 2 "copied" ["value"] (spC 2)) {f : Addr} {fd : FuncData} (F : Fun K "__init__" "BadFault.__init__" s_BadFault___init__ f fd) :
    FnOk P w K mg base CX0 3 f fd ["self", "fault"] (spE C ["fault"] [0]) := by
  refine F.ok sc_BadFault___init__ (fun vs H Q E h => ?_) (fun cdv A outer s H vs Q E hr h => ?_)
  · obtain ⟨a, args, ds, rfl, _, _, _, hl, _⟩ := h
    exact congrArg (· + 1) hl
  obtain ⟨a, args, ds, rfl, ha, hr1, hk, hlen, k⟩ := h
  cases hk with
  | @cons _ d0 _ ds0 k0 hk =>
  cases hr1 with
  | @cons v0 _ _ _ r0 hr1 =>
  cases hk
  cases hr1
  refine ⟨_, (pss_cons (ps_expr (pe_sinit (by rfl) sup (pa_cons (pv 0) (pa_cons pe_str pa_nil))))
  (pss_one (ps_ost (pv 0) (pe_call D_copied.G (hr.mono (by omega)) rfl D_copied.m D_copied.kp D_copied.b .nil pass0 (pa_cons (pv 1) pa_nil))))), ?_⟩
  refine seq_drop ⟨_, rfl, a, C, [_], rfl, (by show 1 ≤ 1000; decide), x.oex, ha, ?_⟩
  refine ⟨v0, rfl, M0, v0, d0, rfl, fun _ z => z.elim, r0, fun v1 H1 e1 r1 => ⟨_, rfl, a, C, rfl, x.oex, n_fault, .inl ⟨e1 _ _ ha, fun dx hdx hne => ?_⟩⟩⟩
  have hh := held1 (f := "fault") e1 (e1 _ _ ha) hdx hne r1
  exact k _ hh.1 hh.2

abbrev s_BadKinds___init__ : Stmt := inClass (top 16) 0
abbrev N_BadKinds___init__ : List Str := ["self", "kinds"]
theorem sc_BadKinds___init__ : FnScope N_BadKinds___init__ ["self", "kinds"] (defScope s_BadKinds___init__) := ⟨rfl, rfl, rfl, by decide +kernel, rfl, by decide +kernel, by decide +kernel⟩
theorem ok_BadKinds (T : Txt K mg) {C S : Addr} (x : XC K C S) (sup : Sup K mg "SwapError" S) (n_kinds : PySem.W.findIn K (.ref C) "kinds" = some none) (D_copied : Df P w K mg base 2 "copied" ["value"] (spC 2)) {f : Addr} {fd : FuncData} (F : Fun K "__init__" "BadKinds.__init__" s_BadKinds___init__ f fd) :
    FnOk P w K mg base CX0 3 f fd ["self", "kinds"] (spE C ["kinds"] [0]) := by
  refine F.ok sc_BadKinds___init__ (fun vs H Q E h => ?_) (fun cdv A outer s H vs Q E hr h => ?_)
  · obtain ⟨a, args, ds, rfl, _, _, _, hl, _⟩ := h
    exact congrArg (· + 1) hl
  obtain ⟨a, args, ds, rfl, ha, hr1, hk, hlen, k⟩ := h
  cases hk with
  | @cons _ d0 _ ds0 k0 hk =>
  cases hr1 with
  | @cons v0 _ _ _ r0 hr1 =>
  cases hk
  cases hr1
  refine ⟨_, (pss_cons (ps_expr (pe_sinit (by rfl) sup (pa_cons (pv 0) (pa_cons pe_str pa_nil))))
  (pss_one (ps_ost (pv 0) (pe_call D_copied.G (hr.mono (by omega)) rfl D_copied.m D_copied.kp D_copied.b .nil pass0 (pa_cons (pv 1) pa_nil))))), ?_⟩
  refine seq_drop ⟨_, rfl, a, C, [_], rfl, (by show 1 ≤ 1000; decide), x.oex, ha, ?_⟩
  refine ⟨v0, rfl, M0, v0, d0, rfl, fun _ z => z.elim, r0, fun v1 H1 e1 r1 => ⟨_, rfl, a, C, rfl, x.oex, n_kinds, .inl ⟨e1 _ _ ha, fun dx hdx hne => ?_⟩⟩⟩
  have hh := held1 (f := "kinds") e1 (e1 _ _ ha) hdx hne r1
  exact k _ hh.1 hh.2

abbrev s_BadLength___init__ : Stmt := inClass (top 17) 0
abbrev N_BadLength___init__ : List Str := ["self", "length"]
theorem sc_BadLength___init__ : FnScope N_BadLength___init__ ["self", "length"] (defScope s_BadLength___init__) := ⟨rfl, rfl, rfl, by decide +kernel, rfl, by decide +kernel, by decide +kernel⟩
theorem ok_BadLength (T : Txt K mg) {C S : Addr} (x : XC K C S) (sup : Sup K mg "SwapError" S) (n_length : PySem.W.findIn K (.ref C) "length" = some none) (D_copied : Df P w K mg base 2 "copied" ["value"] (spC 2)) {f : Addr} {fd : FuncData} (F : Fun K "__init__" "BadLength.__init__" s_BadLength___init__ f fd) :
    FnOk P w K mg base CX0 3 f fd ["self", "length"] (spE C ["length"] [0]) := by
  refine F.ok sc_BadLength___init__ (fun vs H Q E h => ?_) (fun cdv A outer s H vs Q E hr h => ?_)
  · obtain ⟨a, args, ds, rfl, _, _, _, hl, _⟩ := h
    exact congrArg (· + 1) hl
  obtain ⟨a, args, ds, rfl, ha, hr1, hk, hlen, k⟩ := h
  cases hk with
  | @cons _ d0 _ ds0 k0 hk =>
  cases hr1 with
  | @cons v0 _ _ _ r0 hr1 =>
  cases hk
  cases hr1
  refine ⟨_, (pss_cons (ps_expr (pe_sinit (by rfl) sup (pa_cons (pv 0) (pa_cons pe_str pa_nil))))
  (pss_one (ps_ost (pv 0) (pe_call D_copied.G (hr.mono (by omega)) rfl D_copied.m D_copied.kp D_copied.b .nil pass0 (pa_cons (pv 1) pa_nil))))), ?_⟩
  refine seq_drop ⟨_, rfl, a, C, [_], rfl, (by show 1 ≤ 1000; decide), x.oex, ha, ?_⟩
  refine ⟨v0, rfl, M0, v0, d0, rfl, fun _ z => z.elim, r0, fun v1 H1 e1 r1 => ⟨_, rfl, a, C, rfl, x.oex, n_length, .inl ⟨e1 _ _ ha, fun dx hdx hne => ?_⟩⟩⟩
  have hh := held1 (f := "length") e1 (e1 _ _ ha) hdx hne r1
  exact k _ hh.1 hh.2

abbrev s_BadChoice___init__ : Stmt := inClass (top 18) 0
abbrev N_BadChoice___init__ : List Str := ["self", "index"]
theorem sc_BadChoice___init__ : FnScope N_BadChoice___init__ ["self", "index"] (defScope s_BadChoice___init__) := ⟨rfl, rfl, rfl, by decide +kernel, rfl, by decide +kernel, by decide +kernel⟩
theorem ok_BadChoice (T : Txt K mg) {C S : Addr} (x : XC K C S) (sup : Sup K mg "SwapError" S) (n_index : PySem.W.findIn K (.ref C) "index" = some none) {f : Addr} {fd : FuncData} (F : Fun K "__init__" "BadChoice.__init__" s_BadChoice___init__ f fd) :
    FnOk P w K mg base CX0 1 f fd ["self", "index"] (spE C ["index"] [2]) := by
  refine F.ok sc_BadChoice___init__ (fun vs H Q E h => ?_) (fun cdv A outer s H vs Q E hr h => ?_)
  · obtain ⟨a, args, ds, rfl, _, _, _, hl, _⟩ := h
    exact congrArg (· + 1) hl
  obtain ⟨a, args, ds, rfl, ha, hr1, hk, hlen, k⟩ := h
  cases hk with
  | @cons _ d0 _ ds0 k0 hk =>
  cases hr1 with
  | @cons v0 _ _ _ r0 hr1 =>
  cases hk
  cases hr1
  obtain ⟨z0, rfl, hz0⟩ := ok2 k0 r0
  refine ⟨_, (pss_cons (ps_expr (pe_sinit (by rfl) sup (pa_cons (pv 0) (pa_cons (pe_joined (PJ.cons pe_str (PJ.cons (pe_fmt (pv 1)) PJ.nil))) pa_nil))))
  (pss_one (ps_ost (pv 0) (pv 1)))), ?_⟩
  refine seq_drop ⟨_, rfl, js_ok (fun out => ⟨a, C, [.str out], rfl, (by show 1 ≤ 1000; decide), x.oex, ha, ?_⟩) _ _ (fun t ht => ?_) (by show 0 + 3000000 * 2 ≤ 16777216; decide)⟩
  · simp only [List.mem_cons, List.not_mem_nil, or_false] at ht
    rcases ht with rfl | rfl
    · exact part_c (by decide +kernel)
    · exact part_i (i := 1) rfl hz0
  · refine ⟨_, rfl, _, rfl, a, C, rfl, x.oex, n_index, .inl ⟨ha, fun dx hdx hne => ?_⟩⟩
    have hh := held1 (f := "index") (Ex.refl H) ha hdx hne r0
    exact k _ hh.1 hh.2

abbrev s_NoPlace___init__ : Stmt := inClass (top 19) 0
abbrev N_NoPlace___init__ : List Str := ["self", "place"]
theorem sc_NoPlace___init__ : FnScope N_NoPlace___init__ ["self", "place"] (defScope s_NoPlace___init__) := ⟨rfl, rfl, rfl, by decide +kernel, rfl, by decide +kernel, by decide +kernel⟩
theorem ok_NoPlace (T : Txt K mg) {C S : Addr} (x : XC K C S) (sup : Sup K mg "SwapError" S) (n_place : PySem.W.findIn K (.ref C) "place" = some none) (D_copied : Df P w K mg base 2 "copied" ["value"] (spC 2)) {f : Addr} {fd : FuncData} (F : Fun K "__init__" "NoPlace.__init__" s_NoPlace___init__ f fd) :
    FnOk P w K mg base CX0 3 f fd ["self", "place"] (spE C ["place"] [0]) := by
  refine F.ok sc_NoPlace___init__ (fun vs H Q E h => ?_) (fun cdv A outer s H vs Q E hr h => ?_)
  · obtain ⟨a, args, ds, rfl, _, _, _, hl, _⟩ := h
    exact congrArg (· + 1) hl
  obtain ⟨a, args, ds, rfl, ha, hr1, hk, hlen, k⟩ := h
  cases hk with
  | @cons _ d0 _ ds0 k0 hk =>
  cases hr1 with
  | @cons v0 _ _ _ r0 hr1 =>
  cases hk
  cases hr1
  refine ⟨_, (pss_cons (ps_expr (pe_sinit (by rfl) sup (pa_cons (pv 0) (pa_cons pe_str pa_nil))))
  (pss_one (ps_ost (pv 0) (pe_call D_copied.G (hr.mono (by omega)) rfl D_copied.m D_copied.kp D_copied.b .nil pass0 (pa_cons (pv 1) pa_nil))))), ?_⟩
  refine seq_drop ⟨_, rfl, a, C, [_], rfl, (by show 1 ≤ 1000; decide), x.oex, ha, ?_⟩
  refine ⟨v0, rfl, M0, v0, d0, rfl, fun _ z => z.elim, r0, fun v1 H1 e1 r1 => ⟨_, rfl, a, C, rfl, x.oex, n_place, .inl ⟨e1 _ _ ha, fun dx hdx hne => ?_⟩⟩⟩
  have hh := held1 (f := "place") e1 (e1 _ _ ha) hdx hne r1
  exact k _ hh.1 hh.2

abbrev s_InvalidText___init__ : Stmt := inClass (top 20) 0
abbrev N_InvalidText___init__ : List Str := ["self", "line"]
theorem sc_InvalidText___init__ : FnScope N_InvalidText___init__ ["self", "line"] (defScope s_InvalidText___init__) := ⟨rfl, rfl, rfl, by decide +kernel, rfl, by decide +kernel, by decide +kernel⟩
theorem ok_InvalidText (T : Txt K mg) {C S : Addr} (x : XC K C S) (sup : Sup K mg "SwapError" S) (n_line : PySem.W.findIn K (.ref C) "line" = some none) {f : Addr} {fd : FuncData} (F : Fun K "__init__" "InvalidText.__init__" s_InvalidText___init__ f fd) :
    FnOk P w K mg base CX0 1 f fd ["self", "line"] (spE C ["line"] [2]) := by
  refine F.ok sc_InvalidText___init__ (fun vs H Q E h => ?_) (fun cdv A outer s H vs Q E hr h => ?_)
  · obtain ⟨a, args, ds, rfl, _, _, _, hl, _⟩ := h
    exact congrArg (· + 1) hl
  obtain ⟨a, args, ds, rfl, ha, hr1, hk, hlen, k⟩ := h
  cases hk with
  | @cons _ d0 _ ds0 k0 hk =>
  cases hr1 with
  | @cons v0 _ _ _ r0 hr1 =>
  cases hk
  cases hr1
  obtain ⟨z0, rfl, hz0⟩ := ok2 k0 r0
  refine ⟨_, (pss_cons (ps_expr (pe_sinit (by rfl) sup (pa_cons (pv 0) (pa_cons (pe_joined (PJ.cons pe_str (PJ.cons (pe_fmt (pv 1)) (PJ.cons pe_str PJ.nil)))) pa_nil))))
  (pss_one (ps_ost (pv 0) (pv 1)))), ?_⟩
  refine seq_drop ⟨_, rfl, js_ok (fun out => ⟨a, C, [.str out], rfl, (by show 1 ≤ 1000; decide), x.oex, ha, ?_⟩) _ _ (fun t ht => ?_) (by show 0 + 3000000 * 3 ≤ 16777216; decide)⟩
  · simp only [List.mem_cons, List.not_mem_nil, or_false] at ht
    rcases ht with rfl | rfl | rfl
    · exact part_c (by decide +kernel)
    · exact part_i (i := 1) rfl hz0
    · exact part_c (by decide +kernel)
  · refine ⟨_, rfl, _, rfl, a, C, rfl, x.oex, n_line, .inl ⟨ha, fun dx hdx hne => ?_⟩⟩
    have hh := held1 (f := "line") (Ex.refl H) ha hdx hne r0
    exact k _ hh.1 hh.2

abbrev s_DeskRefused___init__ : Stmt := inClass (top 21) 0
abbrev N_DeskRefused___init__ : List Str := ["self", "index"]
theorem sc_DeskRefused___init__ : FnScope N_DeskRefused___init__ ["self", "index"] (defScope s_DeskRefused___init__) := ⟨rfl, rfl, rfl, by decide +kernel, rfl, by decide +kernel, by decide +kernel⟩
theorem ok_DeskRefused (T : Txt K mg) {C S : Addr} (x : XC K C S) (sup : Sup K mg "SwapError" S) (n_index : PySem.W.findIn K (.ref C) "index" = some none) {f : Addr} {fd : FuncData} (F : Fun K "__init__" "DeskRefused.__init__" s_DeskRefused___init__ f fd) :
    FnOk P w K mg base CX0 1 f fd ["self", "index"] (spE C ["index"] [2]) := by
  refine F.ok sc_DeskRefused___init__ (fun vs H Q E h => ?_) (fun cdv A outer s H vs Q E hr h => ?_)
  · obtain ⟨a, args, ds, rfl, _, _, _, hl, _⟩ := h
    exact congrArg (· + 1) hl
  obtain ⟨a, args, ds, rfl, ha, hr1, hk, hlen, k⟩ := h
  cases hk with
  | @cons _ d0 _ ds0 k0 hk =>
  cases hr1 with
  | @cons v0 _ _ _ r0 hr1 =>
  cases hk
  cases hr1
  obtain ⟨z0, rfl, hz0⟩ := ok2 k0 r0
  refine ⟨_, (pss_cons (ps_expr (pe_sinit (by rfl) sup (pa_cons (pv 0) (pa_cons (pe_joined (PJ.cons pe_str (PJ.cons (pe_fmt (pv 1)) (PJ.cons pe_str PJ.nil)))) pa_nil))))
  (pss_one (ps_ost (pv 0) (pv 1)))), ?_⟩
  refine seq_drop ⟨_, rfl, js_ok (fun out => ⟨a, C, [.str out], rfl, (by show 1 ≤ 1000; decide), x.oex, ha, ?_⟩) _ _ (fun t ht => ?_) (by show 0 + 3000000 * 3 ≤ 16777216; decide)⟩
  · simp only [List.mem_cons, List.not_mem_nil, or_false] at ht
    rcases ht with rfl | rfl | rfl
    · exact part_c (by decide +kernel)
    · exact part_i (i := 1) rfl hz0
    · exact part_c (by decide +kernel)
  · refine ⟨_, rfl, _, rfl, a, C, rfl, x.oex, n_index, .inl ⟨ha, fun dx hdx hne => ?_⟩⟩
    have hh := held1 (f := "index") (Ex.refl H) ha hdx hne r0
    exact k _ hh.1 hh.2

abbrev ndsOf (z1 z2 z3 : Str) (ds : List PyData) (n : Int) : List (List Str × List PyData) := [(["part", "path"], [.str z1, .tuple ds]), (["path"], [.tuple ds]), (["sources"], [.tuple ds]), (["name"], [.str z3]), (["deed"], [.tuple ds]), (["what"], [.str z2]), ([], []), ([], []), (["index"], [.int n]), (["limit"], [.int n]), (["limit"], [.int n]), (["fault"], [.tuple ds]), (["kinds"], [.tuple ds]), (["length"], [.int n]), (["index"], [.int n]), (["place"], [.tuple ds]), (["line"], [.int n]), (["index"], [.int n])]
abbrev s__law_flags : Stmt := top 28
abbrev N__law_flags : List Str := ["_law_e", "_law_first"]
theorem sc__law_flags : FnScope N__law_flags ["_law_e"] (defScope s__law_flags) := ⟨rfl, rfl, rfl, by decide +kernel, rfl, by decide +kernel, by decide +kernel⟩
def spFlags (K : PySem.W.Frag) (Cs : List Addr) (S : Addr) : Sp := fun vs H Q _ => ∃ (a C : Addr), vs = [.ref a] ∧ ExAt H a C ∧ XC K C S ∧ ∀ v H', Ex H H' → Rp M0 H' 1 v (.list (flagsD Cs S C)) → Q v H'
theorem ok_flags (T : Txt K mg) (ob : Obc K) {C_InvalidGraph C_InvalidRule C_InvalidSources C_NoModule C_BadDeed C_TooMany C_NotAState C_NothingToUndo C_BatchRefused C_BadLimit C_TooManyStates C_BadFault C_BadKinds C_BadLength C_BadChoice C_NoPlace C_InvalidText C_DeskRefused S : Addr} (g_InvalidGraph : mg "InvalidGraph" = some (.ref C_InvalidGraph)) (g_InvalidRule : mg "InvalidRule" = some (.ref C_InvalidRule)) (g_InvalidSources : mg "InvalidSources" = some (.ref C_InvalidSources)) (g_NoModule : mg "NoModule" = some (.ref C_NoModule)) (g_BadDeed : mg "BadDeed" = some (.ref C_BadDeed)) (g_TooMany : mg "TooMany" = some (.ref C_TooMany)) (g_NotAState : mg "NotAState" = some (.ref C_NotAState)) (g_NothingToUndo : mg "NothingToUndo" = some (.ref C_NothingToUndo)) (g_BatchRefused : mg "BatchRefused" = some (.ref C_BatchRefused)) (g_BadLimit : mg "BadLimit" = some (.ref C_BadLimit)) (g_TooManyStates : mg "TooManyStates" = some (.ref C_TooManyStates)) (g_BadFault : mg "BadFault" = some (.ref C_BadFault)) (g_BadKinds : mg "BadKinds" = some (.ref C_BadKinds)) (g_BadLength : mg "BadLength" = some (.ref C_BadLength)) (g_BadChoice : mg "BadChoice" = some (.ref C_BadChoice)) (g_NoPlace : mg "NoPlace" = some (.ref C_NoPlace)) (g_InvalidText : mg "InvalidText" = some (.ref C_InvalidText)) (g_DeskRefused : mg "DeskRefused" = some (.ref C_DeskRefused)) {f : Addr} {fd : FuncData} (F : Fun K "_law_flags" "_law_flags" s__law_flags f fd)
    (x_InvalidGraph : XC K C_InvalidGraph S) (x_InvalidRule : XC K C_InvalidRule S) (x_InvalidSources : XC K C_InvalidSources S) (x_NoModule : XC K C_NoModule S) (x_BadDeed : XC K C_BadDeed S) (x_TooMany : XC K C_TooMany S) (x_NotAState : XC K C_NotAState S) (x_NothingToUndo : XC K C_NothingToUndo S) (x_BatchRefused : XC K C_BatchRefused S) (x_BadLimit : XC K C_BadLimit S) (x_TooManyStates : XC K C_TooManyStates S) (x_BadFault : XC K C_BadFault S) (x_BadKinds : XC K C_BadKinds S) (x_BadLength : XC K C_BadLength S) (x_BadChoice : XC K C_BadChoice S) (x_NoPlace : XC K C_NoPlace S) (x_InvalidText : XC K C_InvalidText S) (x_DeskRefused : XC K C_DeskRefused S) :
    FnOk P w K mg base CX0 1 f fd ["_law_e"] (spFlags K [C_InvalidGraph, C_InvalidRule, C_InvalidSources, C_NoModule, C_BadDeed, C_TooMany, C_NotAState, C_NothingToUndo, C_BatchRefused, C_BadLimit, C_TooManyStates, C_BadFault, C_BadKinds, C_BadLength, C_BadChoice, C_NoPlace, C_InvalidText, C_DeskRefused] S) := by
  refine F.ok sc__law_flags (fun vs H Q E h => ?_) (fun cdv A outer s H vs Q E hr h => ?_)
  · obtain ⟨a, C, rfl, _⟩ := h
    rfl
  obtain ⟨a, C, rfl, hx, x, k⟩ := h
  refine ⟨_, (pss_cons (ps_set (i := 1) sc__law_flags.nd rfl (Or.inl rfl) (pe_lst (pa_cons (pe_callB call_isx (by rfl) T.b_isinstance (by decide +kernel) (pa_cons (pv 0) (pa_cons (pe_glob (v := .ref C_InvalidGraph) (by rfl) g_InvalidGraph rfl) pa_nil))) (pa_cons (pe_callB call_isx (by rfl) T.b_isinstance (by decide +kernel) (pa_cons (pv 0) (pa_cons (pe_glob (v := .ref C_InvalidRule) (by rfl) g_InvalidRule rfl) pa_nil))) (pa_cons (pe_callB call_isx (by rfl) T.b_isinstance (by decide +kernel) (pa_cons (pv 0) (pa_cons (pe_glob (v := .ref C_InvalidSources) (by rfl) g_InvalidSources rfl) pa_nil))) pa_nil)))))
  (pss_cons (ps_set (i := 1) sc__law_flags.nd rfl (Or.inl rfl) (pe_op op_cat (pv 1) (pe_lst (pa_cons (pe_callB call_isx (by rfl) T.b_isinstance (by decide +kernel) (pa_cons (pv 0) (pa_cons (pe_glob (v := .ref C_NoModule) (by rfl) g_NoModule rfl) pa_nil))) (pa_cons (pe_callB call_isx (by rfl) T.b_isinstance (by decide +kernel) (pa_cons (pv 0) (pa_cons (pe_glob (v := .ref C_BadDeed) (by rfl) g_BadDeed rfl) pa_nil))) (pa_cons (pe_callB call_isx (by rfl) T.b_isinstance (by decide +kernel) (pa_cons (pv 0) (pa_cons (pe_glob (v := .ref C_TooMany) (by rfl) g_TooMany rfl) pa_nil))) (pa_cons (pe_callB call_isx (by rfl) T.b_isinstance (by decide +kernel) (pa_cons (pv 0) (pa_cons (pe_glob (v := .ref C_NotAState) (by rfl) g_NotAState rfl) pa_nil))) pa_nil)))))))
  (pss_cons (ps_set (i := 1) sc__law_flags.nd rfl (Or.inl rfl) (pe_op op_cat (pv 1) (pe_lst (pa_cons (pe_callB call_isx (by rfl) T.b_isinstance (by decide +kernel) (pa_cons (pv 0) (pa_cons (pe_glob (v := .ref C_NothingToUndo) (by rfl) g_NothingToUndo rfl) pa_nil))) (pa_cons (pe_callB call_isx (by rfl) T.b_isinstance (by decide +kernel) (pa_cons (pv 0) (pa_cons (pe_glob (v := .ref C_BatchRefused) (by rfl) g_BatchRefused rfl) pa_nil))) (pa_cons (pe_callB call_isx (by rfl) T.b_isinstance (by decide +kernel) (pa_cons (pv 0) (pa_cons (pe_glob (v := .ref C_BadLimit) (by rfl) g_BadLimit rfl) pa_nil))) pa_nil))))))
  (pss_cons (ps_set (i := 1) sc__law_flags.nd rfl (Or.inl rfl) (pe_op op_cat (pv 1) (pe_lst (pa_cons (pe_callB call_isx (by rfl) T.b_isinstance (by decide +kernel) (pa_cons (pv 0) (pa_cons (pe_glob (v := .ref C_TooManyStates) (by rfl) g_TooManyStates rfl) pa_nil))) (pa_cons (pe_callB call_isx (by rfl) T.b_isinstance (by decide +kernel) (pa_cons (pv 0) (pa_cons (pe_glob (v := .ref C_BadFault) (by rfl) g_BadFault rfl) pa_nil))) (pa_cons (pe_callB call_isx (by rfl) T.b_isinstance (by decide +kernel) (pa_cons (pv 0) (pa_cons (pe_glob (v := .ref C_BadKinds) (by rfl) g_BadKinds rfl) pa_nil))) pa_nil))))))
  (pss_cons (ps_set (i := 1) sc__law_flags.nd rfl (Or.inl rfl) (pe_op op_cat (pv 1) (pe_lst (pa_cons (pe_callB call_isx (by rfl) T.b_isinstance (by decide +kernel) (pa_cons (pv 0) (pa_cons (pe_glob (v := .ref C_BadLength) (by rfl) g_BadLength rfl) pa_nil))) (pa_cons (pe_callB call_isx (by rfl) T.b_isinstance (by decide +kernel) (pa_cons (pv 0) (pa_cons (pe_glob (v := .ref C_BadChoice) (by rfl) g_BadChoice rfl) pa_nil))) (pa_cons (pe_callB call_isx (by rfl) T.b_isinstance (by decide +kernel) (pa_cons (pv 0) (pa_cons (pe_glob (v := .ref C_NoPlace) (by rfl) g_NoPlace rfl) pa_nil))) pa_nil))))))
  (pss_one (ps_ret (pe_op op_cat (pv 1) (pe_lst (pa_cons (pe_callB call_isx (by rfl) T.b_isinstance (by decide +kernel) (pa_cons (pv 0) (pa_cons (pe_glob (v := .ref C_InvalidText) (by rfl) g_InvalidText rfl) pa_nil))) (pa_cons (pe_callB call_isx (by rfl) T.b_isinstance (by decide +kernel) (pa_cons (pv 0) (pa_cons (pe_glob (v := .ref C_DeskRefused) (by rfl) g_DeskRefused rfl) pa_nil))) pa_nil))))))))))), ?_⟩
  have fl : ∀ {σ : L2.St} {H1 : Hp} {D : Addr}, σ[0]? = some (some (.ref a)) → Ex H H1 → XC K D S → EvP (tCB (rIsX K) (tCons (tVar 0) (tCons (tC (.ref D)) tNil))) σ H1 (Da 0 (.bool (decide (D = C) || decide (D = S)))) := fun hs e y =>
    evp_of (evp_isx (ev_var hs) (hx.ex e) (x.ec ob) (.own _) (x.kit y)) Rp.bl (Da.mono _ _)
  refine q_asgLP (As := ([.bool (decide (C_InvalidGraph = C) || decide (C_InvalidGraph = S)), .bool (decide (C_InvalidRule = C) || decide (C_InvalidRule = S)), .bool (decide (C_InvalidSources = C) || decide (C_InvalidSources = S))] : List PyData).map (Da 0)) (elp_lst (eap_cons (fl rfl (Ex.refl _) x_InvalidGraph) (Da.mono _ _) (eap_cons (fl rfl (Ex.refl _) x_InvalidRule) (Da.mono _ _) (eap_cons (fl rfl (Ex.refl _) x_InvalidSources) (Da.mono _ _) eap_nil))) (Monos.da _ _) (by show 3 ≤ 1000; decide)) fun p1 vs1 H1 e1 l1 a1 => ?_
  have E1 : Ex H H1 := e1
  refine q_asgLP (As := ([.bool (decide (C_InvalidGraph = C) || decide (C_InvalidGraph = S)), .bool (decide (C_InvalidRule = C) || decide (C_InvalidRule = S)), .bool (decide (C_InvalidSources = C) || decide (C_InvalidSources = S)), .bool (decide (C_NoModule = C) || decide (C_NoModule = S)), .bool (decide (C_BadDeed = C) || decide (C_BadDeed = S)), .bool (decide (C_TooMany = C) || decide (C_TooMany = S)), .bool (decide (C_NotAState = C) || decide (C_NotAState = S))] : List PyData).map (Da 0)) (elp_catV (As := ([.bool (decide (C_InvalidGraph = C) || decide (C_InvalidGraph = S)), .bool (decide (C_InvalidRule = C) || decide (C_InvalidRule = S)), .bool (decide (C_InvalidSources = C) || decide (C_InvalidSources = S))] : List PyData).map (Da 0)) (Bs := ([.bool (decide (C_NoModule = C) || decide (C_NoModule = S)), .bool (decide (C_BadDeed = C) || decide (C_BadDeed = S)), .bool (decide (C_TooMany = C) || decide (C_TooMany = S)), .bool (decide (C_NotAState = C) || decide (C_NotAState = S))] : List PyData).map (Da 0)) (ev_var rfl) l1 a1 (elp_lst (eap_cons (fl rfl E1 x_NoModule) (Da.mono _ _) (eap_cons (fl rfl E1 x_BadDeed) (Da.mono _ _) (eap_cons (fl rfl E1 x_TooMany) (Da.mono _ _) (eap_cons (fl rfl E1 x_NotAState) (Da.mono _ _) eap_nil)))) (Monos.da _ _) (by show 4 ≤ 1000; decide)) (Monos.da _ _) (Monos.da _ _) (by show 3 + 4 ≤ 1000; decide)) fun p2 vs2 H2 e2 l2 a2 => ?_
  have E2 : Ex H H2 := E1.trans e2
  refine q_asgLP (As := ([.bool (decide (C_InvalidGraph = C) || decide (C_InvalidGraph = S)), .bool (decide (C_InvalidRule = C) || decide (C_InvalidRule = S)), .bool (decide (C_InvalidSources = C) || decide (C_InvalidSources = S)), .bool (decide (C_NoModule = C) || decide (C_NoModule = S)), .bool (decide (C_BadDeed = C) || decide (C_BadDeed = S)), .bool (decide (C_TooMany = C) || decide (C_TooMany = S)), .bool (decide (C_NotAState = C) || decide (C_NotAState = S)), .bool (decide (C_NothingToUndo = C) || decide (C_NothingToUndo = S)), .bool (decide (C_BatchRefused = C) || decide (C_BatchRefused = S)), .bool (decide (C_BadLimit = C) || decide (C_BadLimit = S))] : List PyData).map (Da 0)) (elp_catV (As := ([.bool (decide (C_InvalidGraph = C) || decide (C_InvalidGraph = S)), .bool (decide (C_InvalidRule = C) || decide (C_InvalidRule = S)), .bool (decide (C_InvalidSources = C) || decide (C_InvalidSources = S)), .bool (decide (C_NoModule = C) || decide (C_NoModule = S)), .bool (decide (C_BadDeed = C) || decide (C_BadDeed = S)), .bool (decide (C_TooMany = C) || decide (C_TooMany = S)), .bool (decide (C_NotAState = C) || decide (C_NotAState = S))] : List PyData).map (Da 0)) (Bs := ([.bool (decide (C_NothingToUndo = C) || decide (C_NothingToUndo = S)), .bool (decide (C_BatchRefused = C) || decide (C_BatchRefused = S)), .bool (decide (C_BadLimit = C) || decide (C_BadLimit = S))] : List PyData).map (Da 0)) (ev_var rfl) l2 a2 (elp_lst (eap_cons (fl rfl E2 x_NothingToUndo) (Da.mono _ _) (eap_cons (fl rfl E2 x_BatchRefused) (Da.mono _ _) (eap_cons (fl rfl E2 x_BadLimit) (Da.mono _ _) eap_nil))) (Monos.da _ _) (by show 3 ≤ 1000; decide)) (Monos.da _ _) (Monos.da _ _) (by show 7 + 3 ≤ 1000; decide)) fun p3 vs3 H3 e3 l3 a3 => ?_
  have E3 : Ex H H3 := E2.trans e3
  refine q_asgLP (As := ([.bool (decide (C_InvalidGraph = C) || decide (C_InvalidGraph = S)), .bool (decide (C_InvalidRule = C) || decide (C_InvalidRule = S)), .bool (decide (C_InvalidSources = C) || decide (C_InvalidSources = S)), .bool (decide (C_NoModule = C) || decide (C_NoModule = S)), .bool (decide (C_BadDeed = C) || decide (C_BadDeed = S)), .bool (decide (C_TooMany = C) || decide (C_TooMany = S)), .bool (decide (C_NotAState = C) || decide (C_NotAState = S)), .bool (decide (C_NothingToUndo = C) || decide (C_NothingToUndo = S)), .bool (decide (C_BatchRefused = C) || decide (C_BatchRefused = S)), .bool (decide (C_BadLimit = C) || decide (C_BadLimit = S)), .bool (decide (C_TooManyStates = C) || decide (C_TooManyStates = S)), .bool (decide (C_BadFault = C) || decide (C_BadFault = S)), .bool (decide (C_BadKinds = C) || decide (C_BadKinds = S))] : List PyData).map (Da 0)) (elp_catV (As := ([.bool (decide (C_InvalidGraph = C) || decide (C_InvalidGraph = S)), .bool (decide (C_InvalidRule = C) || decide (C_InvalidRule = S)), .bool (decide (C_InvalidSources = C) || decide (C_InvalidSources = S)), .bool (decide (C_NoModule = C) || decide (C_NoModule = S)), .bool (decide (C_BadDeed = C) || decide (C_BadDeed = S)), .bool (decide (C_TooMany = C) || decide (C_TooMany = S)), .bool (decide (C_NotAState = C) || decide (C_NotAState = S)), .bool (decide (C_NothingToUndo = C) || decide (C_NothingToUndo = S)), .bool (decide (C_BatchRefused = C) || decide (C_BatchRefused = S)), .bool (decide (C_BadLimit = C) || decide (C_BadLimit = S))] : List PyData).map (Da 0)) (Bs := ([.bool (decide (C_TooManyStates = C) || decide (C_TooManyStates = S)), .bool (decide (C_BadFault = C) || decide (C_BadFault = S)), .bool (decide (C_BadKinds = C) || decide (C_BadKinds = S))] : List PyData).map (Da 0)) (ev_var rfl) l3 a3 (elp_lst (eap_cons (fl rfl E3 x_TooManyStates) (Da.mono _ _) (eap_cons (fl rfl E3 x_BadFault) (Da.mono _ _) (eap_cons (fl rfl E3 x_BadKinds) (Da.mono _ _) eap_nil))) (Monos.da _ _) (by show 3 ≤ 1000; decide)) (Monos.da _ _) (Monos.da _ _) (by show 10 + 3 ≤ 1000; decide)) fun p4 vs4 H4 e4 l4 a4 => ?_
  have E4 : Ex H H4 := E3.trans e4
  refine q_asgLP (As := ([.bool (decide (C_InvalidGraph = C) || decide (C_InvalidGraph = S)), .bool (decide (C_InvalidRule = C) || decide (C_InvalidRule = S)), .bool (decide (C_InvalidSources = C) || decide (C_InvalidSources = S)), .bool (decide (C_NoModule = C) || decide (C_NoModule = S)), .bool (decide (C_BadDeed = C) || decide (C_BadDeed = S)), .bool (decide (C_TooMany = C) || decide (C_TooMany = S)), .bool (decide (C_NotAState = C) || decide (C_NotAState = S)), .bool (decide (C_NothingToUndo = C) || decide (C_NothingToUndo = S)), .bool (decide (C_BatchRefused = C) || decide (C_BatchRefused = S)), .bool (decide (C_BadLimit = C) || decide (C_BadLimit = S)), .bool (decide (C_TooManyStates = C) || decide (C_TooManyStates = S)), .bool (decide (C_BadFault = C) || decide (C_BadFault = S)), .bool (decide (C_BadKinds = C) || decide (C_BadKinds = S)), .bool (decide (C_BadLength = C) || decide (C_BadLength = S)), .bool (decide (C_BadChoice = C) || decide (C_BadChoice = S)), .bool (decide (C_NoPlace = C) || decide (C_NoPlace = S))] : List PyData).map (Da 0)) (elp_catV (As := ([.bool (decide (C_InvalidGraph = C) || decide (C_InvalidGraph = S)), .bool (decide (C_InvalidRule = C) || decide (C_InvalidRule = S)), .bool (decide (C_InvalidSources = C) || decide (C_InvalidSources = S)), .bool (decide (C_NoModule = C) || decide (C_NoModule = S)), .bool (decide (C_BadDeed = C) || decide (C_BadDeed = S)), .bool (decide (C_TooMany = C) || decide (C_TooMany = S)), .bool (decide (C_NotAState = C) || decide (C_NotAState = S)), .bool (decide (C_NothingToUndo = C) || decide (C_NothingToUndo = S)), .bool (decide (C_BatchRefused = C) || decide (C_BatchRefused = S)), .bool (decide (C_BadLimit = C) || decide (C_BadLimit = S)), .bool (decide (C_TooManyStates = C) || decide (C_TooManyStates = S)), .bool (decide (C_BadFault = C) || decide (C_BadFault = S)), .bool (decide (C_BadKinds = C) || decide (C_BadKinds = S))] : List PyData).map (Da 0)) (Bs := ([.bool (decide (C_BadLength = C) || decide (C_BadLength = S)), .bool (decide (C_BadChoice = C) || decide (C_BadChoice = S)), .bool (decide (C_NoPlace = C) || decide (C_NoPlace = S))] : List PyData).map (Da 0)) (ev_var rfl) l4 a4 (elp_lst (eap_cons (fl rfl E4 x_BadLength) (Da.mono _ _) (eap_cons (fl rfl E4 x_BadChoice) (Da.mono _ _) (eap_cons (fl rfl E4 x_NoPlace) (Da.mono _ _) eap_nil))) (Monos.da _ _) (by show 3 ≤ 1000; decide)) (Monos.da _ _) (Monos.da _ _) (by show 13 + 3 ≤ 1000; decide)) fun p5 vs5 H5 e5 l5 a5 => ?_
  have E5 : Ex H H5 := E4.trans e5
  refine s_retP (EvLP.da (n := 0) (ds := flagsD [C_InvalidGraph, C_InvalidRule, C_InvalidSources, C_NoModule, C_BadDeed, C_TooMany, C_NotAState, C_NothingToUndo, C_BatchRefused, C_BadLimit, C_TooManyStates, C_BadFault, C_BadKinds, C_BadLength, C_BadChoice, C_NoPlace, C_InvalidText, C_DeskRefused] S C) (elp_catV (As := ([.bool (decide (C_InvalidGraph = C) || decide (C_InvalidGraph = S)), .bool (decide (C_InvalidRule = C) || decide (C_InvalidRule = S)), .bool (decide (C_InvalidSources = C) || decide (C_InvalidSources = S)), .bool (decide (C_NoModule = C) || decide (C_NoModule = S)), .bool (decide (C_BadDeed = C) || decide (C_BadDeed = S)), .bool (decide (C_TooMany = C) || decide (C_TooMany = S)), .bool (decide (C_NotAState = C) || decide (C_NotAState = S)), .bool (decide (C_NothingToUndo = C) || decide (C_NothingToUndo = S)), .bool (decide (C_BatchRefused = C) || decide (C_BatchRefused = S)), .bool (decide (C_BadLimit = C) || decide (C_BadLimit = S)), .bool (decide (C_TooManyStates = C) || decide (C_TooManyStates = S)), .bool (decide (C_BadFault = C) || decide (C_BadFault = S)), .bool (decide (C_BadKinds = C) || decide (C_BadKinds = S)), .bool (decide (C_BadLength = C) || decide (C_BadLength = S)), .bool (decide (C_BadChoice = C) || decide (C_BadChoice = S)), .bool (decide (C_NoPlace = C) || decide (C_NoPlace = S))] : List PyData).map (Da 0)) (Bs := ([.bool (decide (C_InvalidText = C) || decide (C_InvalidText = S)), .bool (decide (C_DeskRefused = C) || decide (C_DeskRefused = S))] : List PyData).map (Da 0)) (ev_var rfl) l5 a5 (elp_lst (eap_cons (fl rfl E5 x_InvalidText) (Da.mono _ _) (eap_cons (fl rfl E5 x_DeskRefused) (Da.mono _ _) eap_nil)) (Monos.da _ _) (by show 2 ≤ 1000; decide)) (Monos.da _ _) (Monos.da _ _) (by show 16 + 2 ≤ 1000; decide)) (by show 18 ≤ 1000; decide)) fun v H6 e6 r => k v _ (E5.trans e6) r

abbrev s__law_made : Stmt := top 29
abbrev N__law_made : List Str := ["_law_part", "_law_word", "_law_name_here", "_law_row", "_law_n", "_law_rows"]
theorem sc__law_made : FnScope N__law_made ["_law_part", "_law_word", "_law_name_here", "_law_row", "_law_n"] (defScope s__law_made) := ⟨rfl, rfl, rfl, by decide +kernel, rfl, by decide +kernel, by decide +kernel⟩
def spMade (Cs : List Addr) : Sp := fun vs H Q _ => ∃ (v1 v2 v3 v4 v5 : V) (z1 z2 z3 : Str) (l : List Int) (n : Int), vs = [v1, v2, v3, v4, v5] ∧ Rp M0 H 1 v1 (.str z1) ∧ Rp M0 H 1 v2 (.str z2) ∧ Rp M0 H 1 v3 (.str z3) ∧ Rp M0 H 1 v4 (.tuple (l.map .int)) ∧ Rp M0 H 1 v5 (.int n) ∧
  z1.length ≤ 100 ∧ z2.length ≤ 100 ∧ l.length ≤ 100 ∧ (∀ y ∈ l, y.natAbs.log2 < 1920) ∧ n.natAbs.log2 < 1920 ∧ ∀ p ws H', Ex H H' → H' p = some (.lst ws) → Paired (fun (A : VP) v => A v H') (rowsA Cs (ndsOf z1 z2 z3 (l.map .int) n)) ws → Q (.ref p) H'
theorem ok_made (T : Txt K mg) {C_InvalidGraph C_InvalidRule C_InvalidSources C_NoModule C_BadDeed C_TooMany C_NotAState C_NothingToUndo C_BatchRefused C_BadLimit C_TooManyStates C_BadFault C_BadKinds C_BadLength C_BadChoice C_NoPlace C_InvalidText C_DeskRefused S : Addr} (X_InvalidGraph : XD P w K mg base 1 "InvalidGraph" C_InvalidGraph S ["self", "part", "path"] (spE C_InvalidGraph ["part", "path"] [1, 3])) (X_InvalidRule : XD P w K mg base 1 "InvalidRule" C_InvalidRule S ["self", "path"] (spE C_InvalidRule ["path"] [3])) (X_InvalidSources : XD P w K mg base 3 "InvalidSources" C_InvalidSources S ["self", "sources"] (spE C_InvalidSources ["sources"] [0])) (X_NoModule : XD P w K mg base 3 "NoModule" C_NoModule S ["self", "name"] (spE C_NoModule ["name"] [0])) (X_BadDeed : XD P w K mg base 3 "BadDeed" C_BadDeed S ["self", "deed"] (spE C_BadDeed ["deed"] [0])) (X_TooMany : XD P w K mg base 1 "TooMany" C_TooMany S ["self", "what"] (spE C_TooMany ["what"] [1])) (X_NotAState : XD P w K mg base 1 "NotAState" C_NotAState S ["self"] (spE C_NotAState [] [])) (X_NothingToUndo : XD P w K mg base 1 "NothingToUndo" C_NothingToUndo S ["self"] (spE C_NothingToUndo [] [])) (X_BatchRefused : XD P w K mg base 1 "BatchRefused" C_BatchRefused S ["self", "index"] (spE C_BatchRefused ["index"] [2])) (X_BadLimit : XD P w K mg base 3 "BadLimit" C_BadLimit S ["self", "limit"] (spE C_BadLimit ["limit"] [0])) (X_TooManyStates : XD P w K mg base 1 "TooManyStates" C_TooManyStates S ["self", "limit"] (spE C_TooManyStates ["limit"] [2])) (X_BadFault : XD P w K mg base 3 "BadFault" C_BadFault S ["self", "fault"] (spE C_BadFault ["fault"] [0])) (X_BadKinds : XD P w K mg base 3 "BadKinds" C_BadKinds S ["self", "kinds"] (spE C_BadKinds ["kinds"] [0])) (X_BadLength : XD P w K mg base 3 "BadLength" C_BadLength S ["self", "length"] (spE C_BadLength ["length"] [0])) (X_BadChoice : XD P w K mg base 1 "BadChoice" C_BadChoice S ["self", "index"] (spE C_BadChoice ["index"] [2])) (X_NoPlace : XD P w K mg base 3 "NoPlace" C_NoPlace S ["self", "place"] (spE C_NoPlace ["place"] [0])) (X_InvalidText : XD P w K mg base 1 "InvalidText" C_InvalidText S ["self", "line"] (spE C_InvalidText ["line"] [2])) (X_DeskRefused : XD P w K mg base 1 "DeskRefused" C_DeskRefused S ["self", "index"] (spE C_DeskRefused ["index"] [2])) {f : Addr} {fd : FuncData} (F : Fun K "_law_made" "_law_made" s__law_made f fd) : FnOk P w K mg base CX0 5 f fd ["_law_part", "_law_word", "_law_name_here", "_law_row", "_law_n"] (spMade [C_InvalidGraph, C_InvalidRule, C_InvalidSources, C_NoModule, C_BadDeed, C_TooMany, C_NotAState, C_NothingToUndo, C_BatchRefused, C_BadLimit, C_TooManyStates, C_BadFault, C_BadKinds, C_BadLength, C_BadChoice, C_NoPlace, C_InvalidText, C_DeskRefused]) := by
  refine F.ok sc__law_made (fun vs H Q E h => ?_) (fun cdv A outer s H vs Q E hr h => ?_)
  · obtain ⟨v1, v2, v3, v4, v5, z1, z2, z3, l, n, rfl, _⟩ := h
    rfl
  obtain ⟨v1, v2, v3, v4, v5, z1, z2, z3, l, n, rfl, r1, r2, r3, r4, r5, h1, h2, hl, hy, hn, k⟩ := h
  have kT : okK 3 (.tuple (l.map .int)) := ⟨by rw [List.length_map]; exact hl, l, rfl, hy⟩
  have kS1 : okK 1 (.str z1) := h1
  have kS2 : okK 1 (.str z2) := h2
  have kI : okK 2 (.int n) := hn
  refine ⟨_, (pss_cons (ps_set (i := 5) sc__law_made.nd rfl (Or.inl rfl) (pe_lst (pa_cons (pe_mkx X_InvalidGraph.T X_InvalidGraph.iC X_InvalidGraph.tI X_InvalidGraph.G (hr.mono (by omega)) X_InvalidGraph.b .nil pass0 (by rfl) X_InvalidGraph.gC (pa_cons (pv 0) (pa_cons (pv 3) pa_nil))) (pa_cons (pe_mkx X_InvalidRule.T X_InvalidRule.iC X_InvalidRule.tI X_InvalidRule.G (hr.mono (by omega)) X_InvalidRule.b .nil pass0 (by rfl) X_InvalidRule.gC (pa_cons (pv 3) pa_nil)) (pa_cons (pe_mkx X_InvalidSources.T X_InvalidSources.iC X_InvalidSources.tI X_InvalidSources.G (hr.mono (by omega)) X_InvalidSources.b .nil pass0 (by rfl) X_InvalidSources.gC (pa_cons (pv 3) pa_nil)) (pa_cons (pe_mkx X_NoModule.T X_NoModule.iC X_NoModule.tI X_NoModule.G (hr.mono (by omega)) X_NoModule.b .nil pass0 (by rfl) X_NoModule.gC (pa_cons (pv 2) pa_nil)) (pa_cons (pe_mkx X_BadDeed.T X_BadDeed.iC X_BadDeed.tI X_BadDeed.G (hr.mono (by omega)) X_BadDeed.b .nil pass0 (by rfl) X_BadDeed.gC (pa_cons (pv 3) pa_nil)) (pa_cons (pe_mkx X_TooMany.T X_TooMany.iC X_TooMany.tI X_TooMany.G (hr.mono (by omega)) X_TooMany.b .nil pass0 (by rfl) X_TooMany.gC (pa_cons (pv 1) pa_nil)) pa_nil))))))))
  (pss_cons (ps_set (i := 5) sc__law_made.nd rfl (Or.inl rfl) (pe_op op_cat (pv 5) (pe_lst (pa_cons (pe_mkx0 X_NotAState.T X_NotAState.iC X_NotAState.tI X_NotAState.G (hr.mono (by omega)) X_NotAState.b .nil pass0 (by rfl) X_NotAState.gC) (pa_cons (pe_mkx0 X_NothingToUndo.T X_NothingToUndo.iC X_NothingToUndo.tI X_NothingToUndo.G (hr.mono (by omega)) X_NothingToUndo.b .nil pass0 (by rfl) X_NothingToUndo.gC) (pa_cons (pe_mkx X_BatchRefused.T X_BatchRefused.iC X_BatchRefused.tI X_BatchRefused.G (hr.mono (by omega)) X_BatchRefused.b .nil pass0 (by rfl) X_BatchRefused.gC (pa_cons (pv 4) pa_nil)) (pa_cons (pe_mkx X_BadLimit.T X_BadLimit.iC X_BadLimit.tI X_BadLimit.G (hr.mono (by omega)) X_BadLimit.b .nil pass0 (by rfl) X_BadLimit.gC (pa_cons (pv 4) pa_nil)) (pa_cons (pe_mkx X_TooManyStates.T X_TooManyStates.iC X_TooManyStates.tI X_TooManyStates.G (hr.mono (by omega)) X_TooManyStates.b .nil pass0 (by rfl) X_TooManyStates.gC (pa_cons (pv 4) pa_nil)) (pa_cons (pe_mkx X_BadFault.T X_BadFault.iC X_BadFault.tI X_BadFault.G (hr.mono (by omega)) X_BadFault.b .nil pass0 (by rfl) X_BadFault.gC (pa_cons (pv 3) pa_nil)) pa_nil)))))))))
  (pss_cons (ps_set (i := 5) sc__law_made.nd rfl (Or.inl rfl) (pe_op op_cat (pv 5) (pe_lst (pa_cons (pe_mkx X_BadKinds.T X_BadKinds.iC X_BadKinds.tI X_BadKinds.G (hr.mono (by omega)) X_BadKinds.b .nil pass0 (by rfl) X_BadKinds.gC (pa_cons (pv 3) pa_nil)) (pa_cons (pe_mkx X_BadLength.T X_BadLength.iC X_BadLength.tI X_BadLength.G (hr.mono (by omega)) X_BadLength.b .nil pass0 (by rfl) X_BadLength.gC (pa_cons (pv 4) pa_nil)) (pa_cons (pe_mkx X_BadChoice.T X_BadChoice.iC X_BadChoice.tI X_BadChoice.G (hr.mono (by omega)) X_BadChoice.b .nil pass0 (by rfl) X_BadChoice.gC (pa_cons (pv 4) pa_nil)) (pa_cons (pe_mkx X_NoPlace.T X_NoPlace.iC X_NoPlace.tI X_NoPlace.G (hr.mono (by omega)) X_NoPlace.b .nil pass0 (by rfl) X_NoPlace.gC (pa_cons (pv 3) pa_nil)) (pa_cons (pe_mkx X_InvalidText.T X_InvalidText.iC X_InvalidText.tI X_InvalidText.G (hr.mono (by omega)) X_InvalidText.b .nil pass0 (by rfl) X_InvalidText.gC (pa_cons (pv 4) pa_nil)) (pa_cons (pe_mkx X_DeskRefused.T X_DeskRefused.iC X_DeskRefused.tI X_DeskRefused.G (hr.mono (by omega)) X_DeskRefused.b .nil pass0 (by rfl) X_DeskRefused.gC (pa_cons (pv 4) pa_nil)) pa_nil)))))))))
  (pss_one (ps_ret (pv 5)))))), ?_⟩
  have av : ∀ {σ : L2.St} {H1 : Hp} {i : Nat} {v : V} {d : PyData}, σ[i]? = some (some v) → Rp M0 H 1 v d → Ex H H1 → EvP (tVar i) σ H1 (Da 1 d) := fun hs r e => evp_var hs (r.ex e) (Da.mono _ _)
  refine q_asgLP (As := [Held C_InvalidGraph ["part", "path"] [.str z1, .tuple (l.map .int)], Held C_InvalidRule ["path"] [.tuple (l.map .int)], Held C_InvalidSources ["sources"] [.tuple (l.map .int)], Held C_NoModule ["name"] [.str z3], Held C_BadDeed ["deed"] [.tuple (l.map .int)], Held C_TooMany ["what"] [.str z2]]) (elp_lst (eap_cons (evp_mk (K := K) (C := C_InvalidGraph) (names := ["part", "path"]) (ks := [1, 3]) (ds := [.str z1, .tuple (l.map .int)]) (eap_cons (av rfl r1 (Ex.refl _)) (Da.mono _ _) (eap_cons (av rfl r4 (Ex.refl _)) (Da.mono _ _) eap_nil)) (.cons (kS1) (.cons (kT) .nil)) rfl (by show 2 ≤ 9; decide)) (Held.mono _ _ _) (eap_cons (evp_mk (K := K) (C := C_InvalidRule) (names := ["path"]) (ks := [3]) (ds := [.tuple (l.map .int)]) (eap_cons (av rfl r4 (Ex.refl _)) (Da.mono _ _) eap_nil) (.cons (kT) .nil) rfl (by show 1 ≤ 9; decide)) (Held.mono _ _ _) (eap_cons (evp_mk (K := K) (C := C_InvalidSources) (names := ["sources"]) (ks := [0]) (ds := [.tuple (l.map .int)]) (eap_cons (av rfl r4 (Ex.refl _)) (Da.mono _ _) eap_nil) (.cons (trivial) .nil) rfl (by show 1 ≤ 9; decide)) (Held.mono _ _ _) (eap_cons (evp_mk (K := K) (C := C_NoModule) (names := ["name"]) (ks := [0]) (ds := [.str z3]) (eap_cons (av rfl r3 (Ex.refl _)) (Da.mono _ _) eap_nil) (.cons (trivial) .nil) rfl (by show 1 ≤ 9; decide)) (Held.mono _ _ _) (eap_cons (evp_mk (K := K) (C := C_BadDeed) (names := ["deed"]) (ks := [0]) (ds := [.tuple (l.map .int)]) (eap_cons (av rfl r4 (Ex.refl _)) (Da.mono _ _) eap_nil) (.cons (trivial) .nil) rfl (by show 1 ≤ 9; decide)) (Held.mono _ _ _) (eap_cons (evp_mk (K := K) (C := C_TooMany) (names := ["what"]) (ks := [1]) (ds := [.str z2]) (eap_cons (av rfl r2 (Ex.refl _)) (Da.mono _ _) eap_nil) (.cons (kS2) .nil) rfl (by show 1 ≤ 9; decide)) (Held.mono _ _ _) eap_nil)))))) (Monos.cons (Held.mono _ _ _) (Monos.cons (Held.mono _ _ _) (Monos.cons (Held.mono _ _ _) (Monos.cons (Held.mono _ _ _) (Monos.cons (Held.mono _ _ _) (Monos.cons (Held.mono _ _ _) Monos.nil)))))) (by show 6 ≤ 1000; decide)) fun p1 vs1 H1 e1 l1 a1 => ?_
  refine q_asgLP (As := [Held C_InvalidGraph ["part", "path"] [.str z1, .tuple (l.map .int)], Held C_InvalidRule ["path"] [.tuple (l.map .int)], Held C_InvalidSources ["sources"] [.tuple (l.map .int)], Held C_NoModule ["name"] [.str z3], Held C_BadDeed ["deed"] [.tuple (l.map .int)], Held C_TooMany ["what"] [.str z2], Held C_NotAState [] [], Held C_NothingToUndo [] [], Held C_BatchRefused ["index"] [.int n], Held C_BadLimit ["limit"] [.int n], Held C_TooManyStates ["limit"] [.int n], Held C_BadFault ["fault"] [.tuple (l.map .int)]]) (elp_catV (As := [Held C_InvalidGraph ["part", "path"] [.str z1, .tuple (l.map .int)], Held C_InvalidRule ["path"] [.tuple (l.map .int)], Held C_InvalidSources ["sources"] [.tuple (l.map .int)], Held C_NoModule ["name"] [.str z3], Held C_BadDeed ["deed"] [.tuple (l.map .int)], Held C_TooMany ["what"] [.str z2]]) (Bs := [Held C_NotAState [] [], Held C_NothingToUndo [] [], Held C_BatchRefused ["index"] [.int n], Held C_BadLimit ["limit"] [.int n], Held C_TooManyStates ["limit"] [.int n], Held C_BadFault ["fault"] [.tuple (l.map .int)]]) (ev_var rfl) l1 a1 (elp_lst (eap_cons (evp_mk (K := K) (C := C_NotAState) (names := []) (ks := []) (ds := []) eap_nil .nil rfl (by show 0 ≤ 9; decide)) (Held.mono _ _ _) (eap_cons (evp_mk (K := K) (C := C_NothingToUndo) (names := []) (ks := []) (ds := []) eap_nil .nil rfl (by show 0 ≤ 9; decide)) (Held.mono _ _ _) (eap_cons (evp_mk (K := K) (C := C_BatchRefused) (names := ["index"]) (ks := [2]) (ds := [.int n]) (eap_cons (av rfl r5 e1) (Da.mono _ _) eap_nil) (.cons (kI) .nil) rfl (by show 1 ≤ 9; decide)) (Held.mono _ _ _) (eap_cons (evp_mk (K := K) (C := C_BadLimit) (names := ["limit"]) (ks := [0]) (ds := [.int n]) (eap_cons (av rfl r5 e1) (Da.mono _ _) eap_nil) (.cons (trivial) .nil) rfl (by show 1 ≤ 9; decide)) (Held.mono _ _ _) (eap_cons (evp_mk (K := K) (C := C_TooManyStates) (names := ["limit"]) (ks := [2]) (ds := [.int n]) (eap_cons (av rfl r5 e1) (Da.mono _ _) eap_nil) (.cons (kI) .nil) rfl (by show 1 ≤ 9; decide)) (Held.mono _ _ _) (eap_cons (evp_mk (K := K) (C := C_BadFault) (names := ["fault"]) (ks := [0]) (ds := [.tuple (l.map .int)]) (eap_cons (av rfl r4 e1) (Da.mono _ _) eap_nil) (.cons (trivial) .nil) rfl (by show 1 ≤ 9; decide)) (Held.mono _ _ _) eap_nil)))))) (Monos.cons (Held.mono _ _ _) (Monos.cons (Held.mono _ _ _) (Monos.cons (Held.mono _ _ _) (Monos.cons (Held.mono _ _ _) (Monos.cons (Held.mono _ _ _) (Monos.cons (Held.mono _ _ _) Monos.nil)))))) (by show 6 ≤ 1000; decide)) (Monos.cons (Held.mono _ _ _) (Monos.cons (Held.mono _ _ _) (Monos.cons (Held.mono _ _ _) (Monos.cons (Held.mono _ _ _) (Monos.cons (Held.mono _ _ _) (Monos.cons (Held.mono _ _ _) Monos.nil)))))) (Monos.cons (Held.mono _ _ _) (Monos.cons (Held.mono _ _ _) (Monos.cons (Held.mono _ _ _) (Monos.cons (Held.mono _ _ _) (Monos.cons (Held.mono _ _ _) (Monos.cons (Held.mono _ _ _) Monos.nil)))))) (by show 6 + 6 ≤ 1000; decide)) fun p2 vs2 H2 e2 l2 a2 => ?_
  have E2 := e1.trans e2
  refine q_asgLP (As := [Held C_InvalidGraph ["part", "path"] [.str z1, .tuple (l.map .int)], Held C_InvalidRule ["path"] [.tuple (l.map .int)], Held C_InvalidSources ["sources"] [.tuple (l.map .int)], Held C_NoModule ["name"] [.str z3], Held C_BadDeed ["deed"] [.tuple (l.map .int)], Held C_TooMany ["what"] [.str z2], Held C_NotAState [] [], Held C_NothingToUndo [] [], Held C_BatchRefused ["index"] [.int n], Held C_BadLimit ["limit"] [.int n], Held C_TooManyStates ["limit"] [.int n], Held C_BadFault ["fault"] [.tuple (l.map .int)], Held C_BadKinds ["kinds"] [.tuple (l.map .int)], Held C_BadLength ["length"] [.int n], Held C_BadChoice ["index"] [.int n], Held C_NoPlace ["place"] [.tuple (l.map .int)], Held C_InvalidText ["line"] [.int n], Held C_DeskRefused ["index"] [.int n]]) (elp_catV (As := [Held C_InvalidGraph ["part", "path"] [.str z1, .tuple (l.map .int)], Held C_InvalidRule ["path"] [.tuple (l.map .int)], Held C_InvalidSources ["sources"] [.tuple (l.map .int)], Held C_NoModule ["name"] [.str z3], Held C_BadDeed ["deed"] [.tuple (l.map .int)], Held C_TooMany ["what"] [.str z2], Held C_NotAState [] [], Held C_NothingToUndo [] [], Held C_BatchRefused ["index"] [.int n], Held C_BadLimit ["limit"] [.int n], Held C_TooManyStates ["limit"] [.int n], Held C_BadFault ["fault"] [.tuple (l.map .int)]]) (Bs := [Held C_BadKinds ["kinds"] [.tuple (l.map .int)], Held C_BadLength ["length"] [.int n], Held C_BadChoice ["index"] [.int n], Held C_NoPlace ["place"] [.tuple (l.map .int)], Held C_InvalidText ["line"] [.int n], Held C_DeskRefused ["index"] [.int n]]) (ev_var rfl) l2 a2 (elp_lst (eap_cons (evp_mk (K := K) (C := C_BadKinds) (names := ["kinds"]) (ks := [0]) (ds := [.tuple (l.map .int)]) (eap_cons (av rfl r4 E2) (Da.mono _ _) eap_nil) (.cons (trivial) .nil) rfl (by show 1 ≤ 9; decide)) (Held.mono _ _ _) (eap_cons (evp_mk (K := K) (C := C_BadLength) (names := ["length"]) (ks := [0]) (ds := [.int n]) (eap_cons (av rfl r5 E2) (Da.mono _ _) eap_nil) (.cons (trivial) .nil) rfl (by show 1 ≤ 9; decide)) (Held.mono _ _ _) (eap_cons (evp_mk (K := K) (C := C_BadChoice) (names := ["index"]) (ks := [2]) (ds := [.int n]) (eap_cons (av rfl r5 E2) (Da.mono _ _) eap_nil) (.cons (kI) .nil) rfl (by show 1 ≤ 9; decide)) (Held.mono _ _ _) (eap_cons (evp_mk (K := K) (C := C_NoPlace) (names := ["place"]) (ks := [0]) (ds := [.tuple (l.map .int)]) (eap_cons (av rfl r4 E2) (Da.mono _ _) eap_nil) (.cons (trivial) .nil) rfl (by show 1 ≤ 9; decide)) (Held.mono _ _ _) (eap_cons (evp_mk (K := K) (C := C_InvalidText) (names := ["line"]) (ks := [2]) (ds := [.int n]) (eap_cons (av rfl r5 E2) (Da.mono _ _) eap_nil) (.cons (kI) .nil) rfl (by show 1 ≤ 9; decide)) (Held.mono _ _ _) (eap_cons (evp_mk (K := K) (C := C_DeskRefused) (names := ["index"]) (ks := [2]) (ds := [.int n]) (eap_cons (av rfl r5 E2) (Da.mono _ _) eap_nil) (.cons (kI) .nil) rfl (by show 1 ≤ 9; decide)) (Held.mono _ _ _) eap_nil)))))) (Monos.cons (Held.mono _ _ _) (Monos.cons (Held.mono _ _ _) (Monos.cons (Held.mono _ _ _) (Monos.cons (Held.mono _ _ _) (Monos.cons (Held.mono _ _ _) (Monos.cons (Held.mono _ _ _) Monos.nil)))))) (by show 6 ≤ 1000; decide)) (Monos.cons (Held.mono _ _ _) (Monos.cons (Held.mono _ _ _) (Monos.cons (Held.mono _ _ _) (Monos.cons (Held.mono _ _ _) (Monos.cons (Held.mono _ _ _) (Monos.cons (Held.mono _ _ _) (Monos.cons (Held.mono _ _ _) (Monos.cons (Held.mono _ _ _) (Monos.cons (Held.mono _ _ _) (Monos.cons (Held.mono _ _ _) (Monos.cons (Held.mono _ _ _) (Monos.cons (Held.mono _ _ _) Monos.nil)))))))))))) (Monos.cons (Held.mono _ _ _) (Monos.cons (Held.mono _ _ _) (Monos.cons (Held.mono _ _ _) (Monos.cons (Held.mono _ _ _) (Monos.cons (Held.mono _ _ _) (Monos.cons (Held.mono _ _ _) Monos.nil)))))) (by show 12 + 6 ≤ 1000; decide)) fun p3 vs3 H3 e3 l3 a3 => ?_
  refine s_ret (ev_var rfl) fun H4 e4 => k p3 vs3 H4 (E2.trans (e3.trans e4)) (e4 _ _ l3) (pairs_ex (rowsA_mono _ _) e4 a3)

abbrev s__law_fields : Stmt := top 30
abbrev N__law_fields : List Str := ["_law_rows", "_law_first"]
theorem sc__law_fields : FnScope N__law_fields ["_law_rows"] (defScope s__law_fields) := ⟨rfl, rfl, rfl, by decide +kernel, rfl, by decide +kernel, by decide +kernel⟩
abbrev fieldsD (z1 z2 z3 : Str) (ds : List PyData) (n : Int) : List PyData := [.tuple [.str z1, .tuple ds], .tuple [.tuple ds], .tuple [.tuple ds], .tuple [.str z3], .tuple [.tuple ds], .tuple [.str z2], .tuple [], .tuple [], .tuple [.int n], .tuple [.int n], .tuple [.int n], .tuple [.tuple ds], .tuple [.tuple ds], .tuple [.int n], .tuple [.int n], .tuple [.tuple ds], .tuple [.int n], .tuple [.int n]]
def spFields (Cs : List Addr) : Sp := fun vs H Q _ => ∃ (p : Addr) (ws : List V) (z1 z2 z3 : Str) (l : List Int) (n : Int), vs = [.ref p] ∧ H p = some (.lst ws) ∧ Paired (fun (A : VP) v => A v H) (rowsA Cs (ndsOf z1 z2 z3 (l.map .int) n)) ws ∧
  ∀ v H', Ex H H' → Rp M0 H' 3 v (.list (fieldsD z1 z2 z3 (l.map .int) n)) → Q v H'
theorem ok_fields (T : Txt K mg) {C_InvalidGraph C_InvalidRule C_InvalidSources C_NoModule C_BadDeed C_TooMany C_NotAState C_NothingToUndo C_BatchRefused C_BadLimit C_TooManyStates C_BadFault C_BadKinds C_BadLength C_BadChoice C_NoPlace C_InvalidText C_DeskRefused S : Addr} (x_InvalidGraph : XC K C_InvalidGraph S) (x_InvalidRule : XC K C_InvalidRule S) (x_InvalidSources : XC K C_InvalidSources S) (x_NoModule : XC K C_NoModule S) (x_BadDeed : XC K C_BadDeed S) (x_TooMany : XC K C_TooMany S) (x_NotAState : XC K C_NotAState S) (x_NothingToUndo : XC K C_NothingToUndo S) (x_BatchRefused : XC K C_BatchRefused S) (x_BadLimit : XC K C_BadLimit S) (x_TooManyStates : XC K C_TooManyStates S) (x_BadFault : XC K C_BadFault S) (x_BadKinds : XC K C_BadKinds S) (x_BadLength : XC K C_BadLength S) (x_BadChoice : XC K C_BadChoice S) (x_NoPlace : XC K C_NoPlace S) (x_InvalidText : XC K C_InvalidText S) (x_DeskRefused : XC K C_DeskRefused S) (n_InvalidGraph_part : PySem.W.findIn K (.ref C_InvalidGraph) "part" = some none) (n_InvalidGraph_path : PySem.W.findIn K (.ref C_InvalidGraph) "path" = some none) (n_InvalidRule_path : PySem.W.findIn K (.ref C_InvalidRule) "path" = some none) (n_InvalidSources_sources : PySem.W.findIn K (.ref C_InvalidSources) "sources" = some none) (n_NoModule_name : PySem.W.findIn K (.ref C_NoModule) "name" = some none) (n_BadDeed_deed : PySem.W.findIn K (.ref C_BadDeed) "deed" = some none) (n_TooMany_what : PySem.W.findIn K (.ref C_TooMany) "what" = some none) (n_BatchRefused_index : PySem.W.findIn K (.ref C_BatchRefused) "index" = some none) (n_BadLimit_limit : PySem.W.findIn K (.ref C_BadLimit) "limit" = some none) (n_TooManyStates_limit : PySem.W.findIn K (.ref C_TooManyStates) "limit" = some none) (n_BadFault_fault : PySem.W.findIn K (.ref C_BadFault) "fault" = some none) (n_BadKinds_kinds : PySem.W.findIn K (.ref C_BadKinds) "kinds" = some none) (n_BadLength_length : PySem.W.findIn K (.ref C_BadLength) "length" = some none) (n_BadChoice_index : PySem.W.findIn K (.ref C_BadChoice) "index" = some none) (n_NoPlace_place : PySem.W.findIn K (.ref C_NoPlace) "place" = some none) (n_InvalidText_line : PySem.W.findIn K (.ref C_InvalidText) "line" = some none) (n_DeskRefused_index : PySem.W.findIn K (.ref C_DeskRefused) "index" = some none) {f : Addr} {fd : FuncData} (F : Fun K "_law_fields" "_law_fields" s__law_fields f fd) : FnOk P w K mg base CX0 1 f fd ["_law_rows"] (spFields [C_InvalidGraph, C_InvalidRule, C_InvalidSources, C_NoModule, C_BadDeed, C_TooMany, C_NotAState, C_NothingToUndo, C_BatchRefused, C_BadLimit, C_TooManyStates, C_BadFault, C_BadKinds, C_BadLength, C_BadChoice, C_NoPlace, C_InvalidText, C_DeskRefused]) := by
  refine F.ok sc__law_fields (fun vs H Q E h => ?_) (fun cdv A outer s H vs Q E hr h => ?_)
  · obtain ⟨p, ws, z1, z2, z3, l, n, rfl, _⟩ := h
    rfl
  obtain ⟨p, ws, z1, z2, z3, l, n, rfl, hp, hws, k⟩ := h
  refine ⟨_, (pss_cons (ps_set (i := 1) sc__law_fields.nd rfl (Or.inl rfl) (pe_lst (pa_cons (pe_tup (pa_cons (pe_xat (pe_ix ix_list (pv 0) pe_int (fun _ _ => rfl))) (pa_cons (pe_xat (pe_ix ix_list (pv 0) pe_int (fun _ _ => rfl))) pa_nil))) (pa_cons (pe_tup (pa_cons (pe_xat (pe_ix ix_list (pv 0) pe_int (fun _ _ => rfl))) pa_nil)) (pa_cons (pe_tup (pa_cons (pe_xat (pe_ix ix_list (pv 0) pe_int (fun _ _ => rfl))) pa_nil)) (pa_cons (pe_tup (pa_cons (pe_xat (pe_ix ix_list (pv 0) pe_int (fun _ _ => rfl))) pa_nil)) (pa_cons (pe_tup (pa_cons (pe_xat (pe_ix ix_list (pv 0) pe_int (fun _ _ => rfl))) pa_nil)) pa_nil)))))))
  (pss_cons (ps_set (i := 1) sc__law_fields.nd rfl (Or.inl rfl) (pe_op op_cat (pv 1) (pe_lst (pa_cons (pe_tup (pa_cons (pe_xat (pe_ix ix_list (pv 0) pe_int (fun _ _ => rfl))) pa_nil)) (pa_cons (pe_tup pa_nil) (pa_cons (pe_tup pa_nil) (pa_cons (pe_tup (pa_cons (pe_xat (pe_ix ix_list (pv 0) pe_int (fun _ _ => rfl))) pa_nil)) (pa_cons (pe_tup (pa_cons (pe_xat (pe_ix ix_list (pv 0) pe_int (fun _ _ => rfl))) pa_nil)) (pa_cons (pe_tup (pa_cons (pe_xat (pe_ix ix_list (pv 0) pe_int (fun _ _ => rfl))) pa_nil)) pa_nil)))))))))
  (pss_cons (ps_set (i := 1) sc__law_fields.nd rfl (Or.inl rfl) (pe_op op_cat (pv 1) (pe_lst (pa_cons (pe_tup (pa_cons (pe_xat (pe_ix ix_list (pv 0) pe_int (fun _ _ => rfl))) pa_nil)) (pa_cons (pe_tup (pa_cons (pe_xat (pe_ix ix_list (pv 0) pe_int (fun _ _ => rfl))) pa_nil)) (pa_cons (pe_tup (pa_cons (pe_xat (pe_ix ix_list (pv 0) pe_int (fun _ _ => rfl))) pa_nil)) (pa_cons (pe_tup (pa_cons (pe_xat (pe_ix ix_list (pv 0) pe_int (fun _ _ => rfl))) pa_nil)) pa_nil)))))))
  (pss_one (ps_ret (pe_op op_cat (pv 1) (pe_lst (pa_cons (pe_tup (pa_cons (pe_xat (pe_ix ix_list (pv 0) pe_int (fun _ _ => rfl))) pa_nil)) (pa_cons (pe_tup (pa_cons (pe_xat (pe_ix ix_list (pv 0) pe_int (fun _ _ => rfl))) pa_nil)) (pa_cons (pe_tup (pa_cons (pe_xat (pe_ix ix_list (pv 0) pe_int (fun _ _ => rfl))) pa_nil)) pa_nil)))))))))), ?_⟩
  have rw_ : ∀ (i : Nat) (A : VP), (rowsA [C_InvalidGraph, C_InvalidRule, C_InvalidSources, C_NoModule, C_BadDeed, C_TooMany, C_NotAState, C_NothingToUndo, C_BatchRefused, C_BadLimit, C_TooManyStates, C_BadFault, C_BadKinds, C_BadLength, C_BadChoice, C_NoPlace, C_InvalidText, C_DeskRefused] (ndsOf z1 z2 z3 (l.map .int) n))[i]? = some A → ∃ v, ws[i]? = some v ∧ A v H := fun i A hA => pair_at hws hA
  have xa : ∀ {σ : L2.St} {H1 : Hp} {i : Nat} {C D : Addr} {nms : List Str} {es : List PyData} {j : Nat} {f : Str} {d : PyData}, σ[0]? = some (some (.ref p)) → Ex H H1 → (rowsA [C_InvalidGraph, C_InvalidRule, C_InvalidSources, C_NoModule, C_BadDeed, C_TooMany, C_NotAState, C_NothingToUndo, C_BatchRefused, C_BadLimit, C_TooManyStates, C_BadFault, C_BadKinds, C_BadLength, C_BadChoice, C_NoPlace, C_InvalidText, C_DeskRefused] (ndsOf z1 z2 z3 (l.map .int) n))[i]? = some (Held C nms es) → XC K C D → PySem.W.findIn K (.ref C) f = some none → nms[j]? = some f → es[j]? = some d →
      EvP (tXat K f (tOp (rIxL K) (tVar 0) (tC (.int (i : Int))))) σ H1 (Da 1 d) := fun {σ H1 i C D nms es j f d} hs e hA x nf hn hd => by
    obtain ⟨v, hv, hh⟩ := rw_ i _ hA
    exact evp_xat (ev_op (ev_var hs) ev_c (rv_ixL (sq_of (e _ _ hp)) (atI_nat hv))) (Held.mono _ _ _ _ _ _ e hh) x nf hn hd
  refine q_asgLP (As := ([.tuple [.str z1, .tuple (l.map .int)], .tuple [.tuple (l.map .int)], .tuple [.tuple (l.map .int)], .tuple [.str z3], .tuple [.tuple (l.map .int)]] : List PyData).map (Da 2)) (elp_lst (eap_cons (evp_tup (n := 1) (ds := [.str z1, .tuple (l.map .int)]) (eap_cons (xa (i := 0) (j := 0) rfl (Ex.refl _) rfl x_InvalidGraph n_InvalidGraph_part rfl rfl) (Da.mono _ _) (eap_cons (xa (i := 0) (j := 1) rfl (Ex.refl _) rfl x_InvalidGraph n_InvalidGraph_path rfl rfl) (Da.mono _ _) eap_nil)) (by show 2 ≤ 1000; decide)) (Da.mono _ _) (eap_cons (evp_tup (n := 1) (ds := [.tuple (l.map .int)]) (eap_cons (xa (i := 1) (j := 0) rfl (Ex.refl _) rfl x_InvalidRule n_InvalidRule_path rfl rfl) (Da.mono _ _) eap_nil) (by show 1 ≤ 1000; decide)) (Da.mono _ _) (eap_cons (evp_tup (n := 1) (ds := [.tuple (l.map .int)]) (eap_cons (xa (i := 2) (j := 0) rfl (Ex.refl _) rfl x_InvalidSources n_InvalidSources_sources rfl rfl) (Da.mono _ _) eap_nil) (by show 1 ≤ 1000; decide)) (Da.mono _ _) (eap_cons (evp_tup (n := 1) (ds := [.str z3]) (eap_cons (xa (i := 3) (j := 0) rfl (Ex.refl _) rfl x_NoModule n_NoModule_name rfl rfl) (Da.mono _ _) eap_nil) (by show 1 ≤ 1000; decide)) (Da.mono _ _) (eap_cons (evp_tup (n := 1) (ds := [.tuple (l.map .int)]) (eap_cons (xa (i := 4) (j := 0) rfl (Ex.refl _) rfl x_BadDeed n_BadDeed_deed rfl rfl) (Da.mono _ _) eap_nil) (by show 1 ≤ 1000; decide)) (Da.mono _ _) eap_nil))))) (Monos.da _ _) (by show 5 ≤ 1000; decide)) fun p1 vs1 H1 e1 l1 a1 => ?_
  refine q_asgLP (As := ([.tuple [.str z1, .tuple (l.map .int)], .tuple [.tuple (l.map .int)], .tuple [.tuple (l.map .int)], .tuple [.str z3], .tuple [.tuple (l.map .int)], .tuple [.str z2], .tuple [], .tuple [], .tuple [.int n], .tuple [.int n], .tuple [.int n]] : List PyData).map (Da 2)) (elp_catV (As := ([.tuple [.str z1, .tuple (l.map .int)], .tuple [.tuple (l.map .int)], .tuple [.tuple (l.map .int)], .tuple [.str z3], .tuple [.tuple (l.map .int)]] : List PyData).map (Da 2)) (Bs := ([.tuple [.str z2], .tuple [], .tuple [], .tuple [.int n], .tuple [.int n], .tuple [.int n]] : List PyData).map (Da 2)) (ev_var rfl) l1 a1 (elp_lst (eap_cons (evp_tup (n := 1) (ds := [.str z2]) (eap_cons (xa (i := 5) (j := 0) rfl e1 rfl x_TooMany n_TooMany_what rfl rfl) (Da.mono _ _) eap_nil) (by show 1 ≤ 1000; decide)) (Da.mono _ _) (eap_cons (evp_tup (n := 1) (ds := []) eap_nil (by show 0 ≤ 1000; decide)) (Da.mono _ _) (eap_cons (evp_tup (n := 1) (ds := []) eap_nil (by show 0 ≤ 1000; decide)) (Da.mono _ _) (eap_cons (evp_tup (n := 1) (ds := [.int n]) (eap_cons (xa (i := 8) (j := 0) rfl e1 rfl x_BatchRefused n_BatchRefused_index rfl rfl) (Da.mono _ _) eap_nil) (by show 1 ≤ 1000; decide)) (Da.mono _ _) (eap_cons (evp_tup (n := 1) (ds := [.int n]) (eap_cons (xa (i := 9) (j := 0) rfl e1 rfl x_BadLimit n_BadLimit_limit rfl rfl) (Da.mono _ _) eap_nil) (by show 1 ≤ 1000; decide)) (Da.mono _ _) (eap_cons (evp_tup (n := 1) (ds := [.int n]) (eap_cons (xa (i := 10) (j := 0) rfl e1 rfl x_TooManyStates n_TooManyStates_limit rfl rfl) (Da.mono _ _) eap_nil) (by show 1 ≤ 1000; decide)) (Da.mono _ _) eap_nil)))))) (Monos.da _ _) (by show 6 ≤ 1000; decide)) (Monos.da _ _) (Monos.da _ _) (by show 5 + 6 ≤ 1000; decide)) fun p2 vs2 H2 e2 l2 a2 => ?_
  have E2 : Ex H H2 := e1.trans e2
  refine q_asgLP (As := ([.tuple [.str z1, .tuple (l.map .int)], .tuple [.tuple (l.map .int)], .tuple [.tuple (l.map .int)], .tuple [.str z3], .tuple [.tuple (l.map .int)], .tuple [.str z2], .tuple [], .tuple [], .tuple [.int n], .tuple [.int n], .tuple [.int n], .tuple [.tuple (l.map .int)], .tuple [.tuple (l.map .int)], .tuple [.int n], .tuple [.int n]] : List PyData).map (Da 2)) (elp_catV (As := ([.tuple [.str z1, .tuple (l.map .int)], .tuple [.tuple (l.map .int)], .tuple [.tuple (l.map .int)], .tuple [.str z3], .tuple [.tuple (l.map .int)], .tuple [.str z2], .tuple [], .tuple [], .tuple [.int n], .tuple [.int n], .tuple [.int n]] : List PyData).map (Da 2)) (Bs := ([.tuple [.tuple (l.map .int)], .tuple [.tuple (l.map .int)], .tuple [.int n], .tuple [.int n]] : List PyData).map (Da 2)) (ev_var rfl) l2 a2 (elp_lst (eap_cons (evp_tup (n := 1) (ds := [.tuple (l.map .int)]) (eap_cons (xa (i := 11) (j := 0) rfl E2 rfl x_BadFault n_BadFault_fault rfl rfl) (Da.mono _ _) eap_nil) (by show 1 ≤ 1000; decide)) (Da.mono _ _) (eap_cons (evp_tup (n := 1) (ds := [.tuple (l.map .int)]) (eap_cons (xa (i := 12) (j := 0) rfl E2 rfl x_BadKinds n_BadKinds_kinds rfl rfl) (Da.mono _ _) eap_nil) (by show 1 ≤ 1000; decide)) (Da.mono _ _) (eap_cons (evp_tup (n := 1) (ds := [.int n]) (eap_cons (xa (i := 13) (j := 0) rfl E2 rfl x_BadLength n_BadLength_length rfl rfl) (Da.mono _ _) eap_nil) (by show 1 ≤ 1000; decide)) (Da.mono _ _) (eap_cons (evp_tup (n := 1) (ds := [.int n]) (eap_cons (xa (i := 14) (j := 0) rfl E2 rfl x_BadChoice n_BadChoice_index rfl rfl) (Da.mono _ _) eap_nil) (by show 1 ≤ 1000; decide)) (Da.mono _ _) eap_nil)))) (Monos.da _ _) (by show 4 ≤ 1000; decide)) (Monos.da _ _) (Monos.da _ _) (by show 11 + 4 ≤ 1000; decide)) fun p3 vs3 H3 e3 l3 a3 => ?_
  have E3 : Ex H H3 := E2.trans e3
  refine s_retP (EvLP.da (n := 2) (ds := fieldsD z1 z2 z3 (l.map .int) n) (elp_catV (As := ([.tuple [.str z1, .tuple (l.map .int)], .tuple [.tuple (l.map .int)], .tuple [.tuple (l.map .int)], .tuple [.str z3], .tuple [.tuple (l.map .int)], .tuple [.str z2], .tuple [], .tuple [], .tuple [.int n], .tuple [.int n], .tuple [.int n], .tuple [.tuple (l.map .int)], .tuple [.tuple (l.map .int)], .tuple [.int n], .tuple [.int n]] : List PyData).map (Da 2)) (Bs := ([.tuple [.tuple (l.map .int)], .tuple [.int n], .tuple [.int n]] : List PyData).map (Da 2)) (ev_var rfl) l3 a3 (elp_lst (eap_cons (evp_tup (n := 1) (ds := [.tuple (l.map .int)]) (eap_cons (xa (i := 15) (j := 0) rfl E3 rfl x_NoPlace n_NoPlace_place rfl rfl) (Da.mono _ _) eap_nil) (by show 1 ≤ 1000; decide)) (Da.mono _ _) (eap_cons (evp_tup (n := 1) (ds := [.int n]) (eap_cons (xa (i := 16) (j := 0) rfl E3 rfl x_InvalidText n_InvalidText_line rfl rfl) (Da.mono _ _) eap_nil) (by show 1 ≤ 1000; decide)) (Da.mono _ _) (eap_cons (evp_tup (n := 1) (ds := [.int n]) (eap_cons (xa (i := 17) (j := 0) rfl E3 rfl x_DeskRefused n_DeskRefused_index rfl rfl) (Da.mono _ _) eap_nil) (by show 1 ≤ 1000; decide)) (Da.mono _ _) eap_nil))) (Monos.da _ _) (by show 3 ≤ 1000; decide)) (Monos.da _ _) (Monos.da _ _) (by show 15 + 3 ≤ 1000; decide)) (by show 18 ≤ 1000; decide)) fun v H4 e4 r => k v _ (E3.trans e4) r
abbrev s_law : Stmt := top 31
abbrev N_law : List Str := ["_law_script", "_law_part", "_law_word", "_law_name_here", "_law_n", "_law_row", "_law_rows", "_law_due", "_law_k", "_law_pool_here", "_law_at"]
theorem sc_law : FnScope N_law ["_law_script"] (defScope s_law) := ⟨rfl, rfl, rfl, by decide +kernel, rfl, by decide +kernel, by decide +kernel⟩
def spLaw (K : PySem.W.Frag) : Sp := fun vs H Q _ => ∃ (a : Addr) (ns : List Int), vs = [.ref a] ∧ SqL K H a (ns.map V.int) ∧ ns.length ≤ 63 ∧ ∀ H', Q (.bl true) H'
theorem et_same {σ : L2.St} {H : Hp} {ta tb : TE} {d : PyData} (ha : EvP ta σ H (Da 3 d)) (hb : EvP tb σ H (Da 3 d)) : EvT (tB (tCall (spS 4) [] E0 (tCons ta (tCons tb tNil)))) σ H true := fun H1 e Q q =>
  ha H1 e _ fun v H2 e2 a => hb H2 (e.trans e2) _ fun u H3 e3 b => ⟨v, u, d, rfl, Rp.ex e3 a, b, fun H4 e4 => ⟨true, rfl, q H4 ((e2.trans e3).trans e4)⟩⟩
theorem ok_law (T : Txt K mg) (ob : Obc K) {C_InvalidGraph C_InvalidRule C_InvalidSources C_NoModule C_BadDeed C_TooMany C_NotAState C_NothingToUndo C_BatchRefused C_BadLimit C_TooManyStates C_BadFault C_BadKinds C_BadLength C_BadChoice C_NoPlace C_InvalidText C_DeskRefused S : Addr} (hC : ([C_InvalidGraph, C_InvalidRule, C_InvalidSources, C_NoModule, C_BadDeed, C_TooMany, C_NotAState, C_NothingToUndo, C_BatchRefused, C_BadLimit, C_TooManyStates, C_BadFault, C_BadKinds, C_BadLength, C_BadChoice, C_NoPlace, C_InvalidText, C_DeskRefused] : List Addr).Nodup) (hCS : S ∉ ([C_InvalidGraph, C_InvalidRule, C_InvalidSources, C_NoModule, C_BadDeed, C_TooMany, C_NotAState, C_NothingToUndo, C_BatchRefused, C_BadLimit, C_TooManyStates, C_BadFault, C_BadKinds, C_BadLength, C_BadChoice, C_NoPlace, C_InvalidText, C_DeskRefused] : List Addr)) (sc : SC K S) (sup : Sup K mg "SwapError" S) (x_InvalidGraph : XC K C_InvalidGraph S) (x_InvalidRule : XC K C_InvalidRule S) (x_InvalidSources : XC K C_InvalidSources S) (x_NoModule : XC K C_NoModule S) (x_BadDeed : XC K C_BadDeed S) (x_TooMany : XC K C_TooMany S) (x_NotAState : XC K C_NotAState S) (x_NothingToUndo : XC K C_NothingToUndo S) (x_BatchRefused : XC K C_BatchRefused S) (x_BadLimit : XC K C_BadLimit S) (x_TooManyStates : XC K C_TooManyStates S) (x_BadFault : XC K C_BadFault S) (x_BadKinds : XC K C_BadKinds S) (x_BadLength : XC K C_BadLength S) (x_BadChoice : XC K C_BadChoice S) (x_NoPlace : XC K C_NoPlace S) (x_InvalidText : XC K C_InvalidText S) (x_DeskRefused : XC K C_DeskRefused S)
    (D__law_pool : Df P w K mg base 1 "_law_pool" ["_law_script"] (spPool K)) (D__law_draw : Df P w K mg base 1 "_law_draw" ["_law_pool_here", "_law_many"] spDraw) (D__law_pick : Df P w K mg base 2 "_law_pick" ["_law_pool_here", "_law_items"] (spPick K))
    (D__law_name : Df P w K mg base 2 "_law_name" ["_law_pool_here", "_law_taken"] (spName K)) (D__law_same : Df P w K mg base 4 "_law_same" ["_law_a", "_law_b"] (spS 4)) (D__law_flags : Df P w K mg base 1 "_law_flags" ["_law_e"] (spFlags K [C_InvalidGraph, C_InvalidRule, C_InvalidSources, C_NoModule, C_BadDeed, C_TooMany, C_NotAState, C_NothingToUndo, C_BatchRefused, C_BadLimit, C_TooManyStates, C_BadFault, C_BadKinds, C_BadLength, C_BadChoice, C_NoPlace, C_InvalidText, C_DeskRefused] S))
    (D__law_made : Df P w K mg base 5 "_law_made" ["_law_part", "_law_word", "_law_name_here", "_law_row", "_law_n"] (spMade [C_InvalidGraph, C_InvalidRule, C_InvalidSources, C_NoModule, C_BadDeed, C_TooMany, C_NotAState, C_NothingToUndo, C_BatchRefused, C_BadLimit, C_TooManyStates, C_BadFault, C_BadKinds, C_BadLength, C_BadChoice, C_NoPlace, C_InvalidText, C_DeskRefused])) (D__law_fields : Df P w K mg base 1 "_law_fields" ["_law_rows"] (spFields [C_InvalidGraph, C_InvalidRule, C_InvalidSources, C_NoModule, C_BadDeed, C_TooMany, C_NotAState, C_NothingToUndo, C_BatchRefused, C_BadLimit, C_TooManyStates, C_BadFault, C_BadKinds, C_BadLength, C_BadChoice, C_NoPlace, C_InvalidText, C_DeskRefused]))
    {f : Addr} {fd : FuncData} (F : Fun K "law" "law" s_law f fd) : FnOk P w K mg base CX0 6 f fd ["_law_script"] (spLaw K) := by
  refine F.ok sc_law (fun vs H Q E h => ?_) (fun cdv A outer s H vs Q E hr h => ?_)
  · obtain ⟨a, ns, rfl, _⟩ := h
    rfl
  obtain ⟨a, ns, rfl, hS, h63, k⟩ := h
  refine ⟨_, (pss_cons (ps_set (i := 9) sc_law.nd rfl (Or.inr rfl) (pe_call D__law_pool.G (hr.mono (by omega)) rfl D__law_pool.m D__law_pool.kp D__law_pool.b .nil pass0 (pa_cons (pv 0) pa_nil)))
  (pss_cons (ps_set (i := 1) sc_law.nd rfl (Or.inl rfl) (pe_call D__law_pick.G (hr.mono (by omega)) rfl D__law_pick.m D__law_pick.kp D__law_pick.b .nil pass0 (pa_cons (pv 9) (pa_cons (pe_lst (pa_cons pe_str (pa_cons pe_str (pa_cons pe_str (pa_cons pe_str (pa_cons pe_str (pa_cons pe_str pa_nil))))))) pa_nil))))
  (pss_cons (ps_set (i := 2) sc_law.nd rfl (Or.inl rfl) (pe_call D__law_pick.G (hr.mono (by omega)) rfl D__law_pick.m D__law_pick.kp D__law_pick.b .nil pass0 (pa_cons (pv 9) (pa_cons (pe_lst (pa_cons pe_str (pa_cons pe_str (pa_cons pe_str pa_nil)))) pa_nil))))
  (pss_cons (ps_set (i := 3) sc_law.nd rfl (Or.inl rfl) (pe_call D__law_name.G (hr.mono (by omega)) rfl D__law_name.m D__law_name.kp D__law_name.b .nil pass0 (pa_cons (pv 9) (pa_cons (pe_lst pa_nil) pa_nil))))
  (pss_cons (ps_set (i := 4) sc_law.nd rfl (Or.inl rfl) (pe_op op_add pe_int (pe_call D__law_draw.G (hr.mono (by omega)) rfl D__law_draw.m D__law_draw.kp D__law_draw.b .nil pass0 (pa_cons (pv 9) (pa_cons (pe_op op_pow pe_int pe_int) pa_nil)))))
  (pss_cons (ps_set (i := 5) sc_law.nd rfl (Or.inl rfl) (pe_callTy call_tuple_of (by rfl) T.b_tuple (by decide +kernel) (pa_cons (pe_lc (own := [("_law_k", 8)]) (g := (gName 8)) (tt := tYes) rfl sc_law.nd (pi_range1 (by rfl) T.b_range (pa_cons (pe_call D__law_draw.G (hr.mono (by omega)) rfl D__law_draw.m D__law_draw.kp D__law_draw.b .nil pass0 (pa_cons (pv 9) (pa_cons pe_int pa_nil))) pa_nil)) (blkOk_by (own := [("_law_k", 8)]) (N := N_law) (sc := defScope s_law) (by decide +kernel)) (fun _ _ _ _ _ => (pg_name (i := 8) sc_law.nd rfl (Or.inl rfl))) (fun _ _ _ _ _ => pts_nil) (fun _ _ _ _ _ => (pe_call D__law_draw.G (hr.mono (by omega)) rfl D__law_draw.m D__law_draw.kp D__law_draw.b .nil pass0 (pa_cons (pv 9) (pa_cons (pe_op op_pow pe_int pe_int) pa_nil))))) pa_nil)))
  (pss_cons (ps_set (i := 6) sc_law.nd rfl (Or.inl rfl) (pe_call D__law_made.G (hr.mono (by omega)) rfl D__law_made.m D__law_made.kp D__law_made.b .nil pass0 (pa_cons (pv 1) (pa_cons (pv 2) (pa_cons (pv 3) (pa_cons (pv 5) (pa_cons (pv 4) pa_nil)))))))
  (pss_cons (ps_for PassesOwn.never rfl (pi_range1 (by rfl) T.b_range (pa_cons pe_int pa_nil)) (pg_name (i := 8) sc_law.nd rfl (Or.inr rfl))
  (pss_cons (ps_if (PW.pt (pw_or (pt_not (pt_val (pe_callB call_isx (by rfl) T.b_isinstance (by decide +kernel) (pa_cons (pe_ix ix_list (pv 6) (pv 8) (fun _ _ => rfl)) (pa_cons (pe_glob (v := .ref S) (by rfl) sup.g rfl) pa_nil))))) (pw_or1 (pt_not (pt_val (pe_callB call_isx (by rfl) T.b_isinstance (by decide +kernel) (pa_cons (pe_ix ix_list (pv 6) (pv 8) (fun _ _ => rfl)) (pa_cons (pe_bltn (v := .ty "ValueError") (by rfl) T.b_ValueError (by decide +kernel) rfl) pa_nil)))))))) (pss_one (ps_ret pe_bl)) pss_nil)
  (pss_one (ps_if (pt_not (pt_val (pe_call D__law_same.G (hr.mono (by omega)) rfl D__law_same.m D__law_same.kp D__law_same.b .nil pass0 (pa_cons (pe_call D__law_flags.G (hr.mono (by omega)) rfl D__law_flags.m D__law_flags.kp D__law_flags.b .nil pass0 (pa_cons (pe_ix ix_list (pv 6) (pv 8) (fun _ _ => rfl)) pa_nil)) (pa_cons (pe_lc (own := [("_law_at", 10)]) (g := (gName 10)) (tt := tYes) rfl sc_law.nd (pi_range1 (by rfl) T.b_range (pa_cons pe_int pa_nil)) (blkOk_by (own := [("_law_at", 10)]) (N := N_law) (sc := defScope s_law) (by decide +kernel)) (fun _ _ _ _ _ => (pg_name (i := 10) sc_law.nd rfl (Or.inl rfl))) (fun _ _ _ _ _ => pts_nil) (fun _ _ _ _ _ => (pe_cmpR op_eq (pv 10) (pv 8) (nomark _)))) pa_nil))))) (pss_one (ps_ret pe_bl)) pss_nil))))
  (pss_cons (ps_set (i := 7) sc_law.nd rfl (Or.inl rfl) (pe_lst (pa_cons (pe_tup (pa_cons (pv 1) (pa_cons (pv 5) pa_nil))) (pa_cons (pe_tup (pa_cons (pv 5) pa_nil)) (pa_cons (pe_tup (pa_cons (pv 5) pa_nil)) (pa_cons (pe_tup (pa_cons (pv 3) pa_nil)) (pa_cons (pe_tup (pa_cons (pv 5) pa_nil)) (pa_cons (pe_tup (pa_cons (pv 2) pa_nil)) (pa_cons (pe_tup pa_nil) (pa_cons (pe_tup pa_nil) (pa_cons (pe_tup (pa_cons (pv 4) pa_nil)) (pa_cons (pe_tup (pa_cons (pv 4) pa_nil)) (pa_cons (pe_tup (pa_cons (pv 4) pa_nil)) (pa_cons (pe_tup (pa_cons (pv 5) pa_nil)) pa_nil))))))))))))))
  (pss_cons (ps_set (i := 7) sc_law.nd rfl (Or.inl rfl) (pe_op op_cat (pv 7) (pe_lst (pa_cons (pe_tup (pa_cons (pv 5) pa_nil)) (pa_cons (pe_tup (pa_cons (pv 4) pa_nil)) (pa_cons (pe_tup (pa_cons (pv 4) pa_nil)) (pa_cons (pe_tup (pa_cons (pv 5) pa_nil)) (pa_cons (pe_tup (pa_cons (pv 4) pa_nil)) (pa_cons (pe_tup (pa_cons (pv 4) pa_nil)) pa_nil)))))))))
  (pss_one (ps_ret (pe_call D__law_same.G (hr.mono (by omega)) rfl D__law_same.m D__law_same.kp D__law_same.b .nil pass0 (pa_cons (pe_call D__law_fields.G (hr.mono (by omega)) rfl D__law_fields.m D__law_fields.kp D__law_fields.b .nil pass0 (pa_cons (pv 6) pa_nil)) (pa_cons (pv 7) pa_nil))))))))))))))), ?_⟩
  -- the draws
  refine ⟨_, rfl, a, ns, rfl, hS, h63, fun p H1 e1 n1 P1' => ?_⟩
  have P1 : PoolAt M0 H1 p := P1'.weak fun _ z => z.elim
  have L0 : ∀ {H : Hp}, Live M0 H := fun _ z => z.elim
  have ne : ∀ {M : Addr → Prop} {H : Hp} {t : Addr}, PoolAt M H p → H t = none → t ≠ p := fun P h => by
    obtain ⟨o, ho⟩ := P.some
    exact (ne_of_none ho h).symm
  refine ⟨_, rfl, (by show 6 ≤ sizeLine; decide), fun t1 ht1 => ⟨M0, p, t1, _, rfl, L0, P1.ex (Ex.new ht1), sq_of upd_same, ne P1 ht1, (by decide), (by decide), fun v1 H2 hv1 s2 P2 => ?_⟩⟩
  obtain ⟨z1, rfl, hz1⟩ : ∃ z : Str, v1 = .str z ∧ z.length ≤ 100 := by
    simp only [List.mem_cons, List.not_mem_nil, or_false] at hv1
    rcases hv1 with rfl | rfl | rfl | rfl | rfl | rfl <;> exact ⟨_, rfl, by decide +kernel⟩
  refine ⟨_, rfl, (by show 3 ≤ sizeLine; decide), fun t2 ht2 => ⟨M0, p, t2, _, rfl, L0, P2.ex (Ex.new ht2), sq_of upd_same, ne P2 ht2, (by decide), (by decide), fun v2 H3 hv2 s3 P3 => ?_⟩⟩
  obtain ⟨z2, rfl, hz2⟩ : ∃ z : Str, v2 = .str z ∧ z.length ≤ 100 := by
    simp only [List.mem_cons, List.not_mem_nil, or_false] at hv2
    rcases hv2 with rfl | rfl | rfl <;> exact ⟨_, rfl, by decide +kernel⟩
  refine ⟨_, rfl, Nat.zero_le _, fun t3 ht3 => ⟨M0, p, t3, [], rfl, L0, P3.ex (Ex.new ht3), sq_of upd_same, ne P3 ht3, (by decide), fun z3 H4 hz3 s4 P4 => ?_⟩⟩
  have e30 : (10 : Int) ^ (30 : Int).toNat = 1000000000000000000000000000000 := by decide
  have e9 : (10 : Int) ^ (9 : Int).toNat = 1000000000 := by decide
  refine ⟨_, rfl, _, _, rfl, rfl, ⟨by decide, by decide, by decide⟩, M0, p, _, rfl, L0, P4, (by decide), lg (by decide), fun d4 H5 d40 d41 s5 P5 => ⟨1, d4, rfl, rfl, ?_⟩⟩
  rw [e30] at d41
  have hn : (1 + d4).natAbs.log2 < 1920 := lg1920 (Nat.lt_of_lt_of_le (by omega : (1 + d4).natAbs < 1000000000000000000000000000001) (by decide))
  -- the row
  show gName 4 (V.int (1 + d4)) _ H5 _
  generalize 1 + d4 = n at hn
  refine ⟨_, rfl, M0, p, _, rfl, L0, P5, (by decide), lgs (by decide), fun d H6 d0 d1 s6 P6 => ⟨d, rfl, by omega, by omega, fun D hD => ?_⟩⟩
  have hDp : D ≠ p := ne P6 hD
  refine lc_range (lo := 0) (n := d.toNat) (fun i H' => PoolAt (fun a => a = D) H' p ∧ ∃ l : List Int, H' D = some (.lst (l.map V.int)) ∧ l.length = i ∧ ∀ y ∈ l, y.natAbs.log2 < 1920) ⟨(P6.addM (N := fun a => a = D) fun a z => .inr (by rw [z]; exact hD)).upd rfl hDp.symm, [], upd_same, rfl, fun _ h => absurd h List.not_mem_nil⟩ ?_ ?_
  · rintro i H7 hi ⟨P7, l, hl, hli, hy⟩
    refine ⟨rfl, yes_if ?_⟩
    refine ⟨_, rfl, _, _, rfl, rfl, ⟨by decide, by decide, by decide⟩, fun a => a = D, p, _, rfl, fun a z => (by rw [z, hl]; exact fun q => nomatch q), P7, (by decide), lg (by decide), fun x H8 x0 x1 s8 P8 => ?_⟩
    rw [e9] at x1
    refine ⟨_, s8 _ _ hDp hl, small1000 (by rw [List.length_map]; omega), P8.upd rfl hDp.symm, l ++ [x], by rw [upd_same, List.map_append] <;> rfl, by rw [List.length_append, List.length_singleton, hli], fun y hyl => ?_⟩
    rcases List.mem_append.mp hyl with q | q
    · exact hy y q
    · have e : y = x := by simpa using q
      rw [e]
      exact lg1920 (Nat.lt_of_lt_of_le (by omega : x.natAbs < 1000000001) (by decide))
  rintro H7 ⟨P7, l, hl, hli, hy⟩
  refine ⟨D, _, rfl, .inl ⟨sq_of hl, fun r hr' => ?_⟩⟩
  have hl100 : l.length ≤ 100 := by omega
  have hrow : Rp M0 (upd H7 r (.tup (l.map V.int))) 1 (.ref r) (.tuple (l.map .int)) := ⟨_, upd_same, by rw [List.length_map]; omega, ints_rp l, fun z => z⟩
  generalize upd H7 r (.tup (l.map V.int)) = H8 at hrow
  -- the errors
  refine ⟨_, rfl, _, rfl, _, rfl, _, rfl, _, rfl, .str z1, .str z2, .str z3, .ref r, .int n, z1, z2, z3, l, n, rfl, Rp.str, Rp.str, Rp.str, hrow, Rp.int, hz1, hz2, hl100, hy, hn, fun q ws H9 e9' l9 a9 => ?_⟩
  have hrow9 := hrow.ex e9'
  refine ⟨18, rfl, by decide, by decide, for_range (lo := 0) (n := (18 : Int).toNat) (fun i σ' H' => ∃ x, σ' = [some (.ref a), some (.str z1), some (.str z2), some (.str z3), some (.int n), some (.ref r), some (.ref q), none, x, some (.ref p), none] ∧ Ex H9 H') ⟨_, rfl, Ex.refl _⟩ ?_ ?_⟩
  · rintro i σ' H10 hi ⟨x, rfl, e10⟩
    have hi18 : i < 18 := hi
    obtain ⟨A, hA⟩ : ∃ A, (rowsA [C_InvalidGraph, C_InvalidRule, C_InvalidSources, C_NoModule, C_BadDeed, C_TooMany, C_NotAState, C_NothingToUndo, C_BatchRefused, C_BadLimit, C_TooManyStates, C_BadFault, C_BadKinds, C_BadLength, C_BadChoice, C_NoPlace, C_InvalidText, C_DeskRefused] (ndsOf z1 z2 z3 (l.map .int) n))[i]? = some A := ⟨_, List.getElem?_eq_getElem (show i < 18 from hi18)⟩
    obtain ⟨v, hv, hh⟩ := pair_at a9 hA
    obtain ⟨C, nd, hCi, rfl⟩ := rowsA_at hA
    obtain ⟨b, rfl, hb⟩ := Held.at_ hh
    have xC : XC K C S := by
      have hm := List.mem_of_getElem? hCi
      simp only [List.mem_cons, List.not_mem_nil, or_false] at hm
      rcases hm with rfl | rfl | rfl | rfl | rfl | rfl | rfl | rfl | rfl | rfl | rfl | rfl | rfl | rfl | rfl | rfl | rfl | rfl <;> assumption
    have row : ∀ {σ : L2.St} {H' : Hp}, σ[6]? = some (some (.ref q)) → σ[8]? = some (some (.int (0 + (i : Int)))) → Ex H10 H' → Ev (tOp (rIxL K) (tVar 6) (tVar 8)) σ H' (.ref b) := fun h6 h8 e =>
      ev_op (ev_var h6) (ev_var h8) (rv_ixL (sq_of ((e10.trans e) _ _ l9)) (at_of (j := i) (by omega) hv))
    refine q_when (b := false) (et_is (et_or (et_not (et_B (evp_isx (row rfl rfl (Ex.refl _)) (hb.ex e10) (xC.ec ob) (.own S) (xC.kitS sc)))) fun _ => et_not (et_B (evp_isx (row rfl rfl (Ex.refl _)) (hb.ex e10) (xC.ec ob) (.ty "ValueError") xC.kitTy))) rfl) (fun z => Bool.noConfusion z) (fun _ H11 e11 => ?_)
    have fC := flags_at hC hCS hCi
    refine s_when (b := false) (et_is (et_not (et_same (d := .list (flagsD [C_InvalidGraph, C_InvalidRule, C_InvalidSources, C_NoModule, C_BadDeed, C_TooMany, C_NotAState, C_NothingToUndo, C_BatchRefused, C_BadLimit, C_TooManyStates, C_BadFault, C_BadKinds, C_BadLength, C_BadChoice, C_NoPlace, C_InvalidText, C_DeskRefused] S C)) ?_ ?_)) rfl) (fun z => Bool.noConfusion z) (fun _ H12 e12 => ⟨_, rfl, e10.trans (e11.trans e12)⟩)
    · exact fun H12 e12 Q' q' => row rfl rfl (e11.trans e12) H12 (Ex.refl _) _ fun H13 e13 => ⟨b, C, rfl, hb.ex (e10.trans (e11.trans (e12.trans e13))), xC, fun v' H14 e14 r14 => q' v' H14 (e13.trans e14) (Da.le (n := 1) (by decide) r14)⟩
    · rw [fC]
      have z := evl_da (bs := (List.range 18).map fun j => decide (j = i)) (el_lcR1 (te := tOp rEq (tVar 10) (tVar 8)) (t := tYes) (j := 10) (vs := [10]) (σ := [some (.ref a), some (.str z1), some (.str z2), some (.str z3), some (.int n), some (.ref r), some (.ref q), none, some (.int (0 + (i : Int))), some (.ref p), none]) (H := H11) (ta := tCons (tC (.int 18)) tNil) (n := 18) (fun _ => true) (fun j => V.bl (decide (j = i)))
        (ea_cons ev_c ea_nil) (by decide) (fun _ => rfl) (fun j H12 _ _ => fun H13 _ Q' q' => q' H13 (Ex.refl H13)) (fun j H12 _ _ _ => ev_is (ev_op (ev_var rfl) (ev_var rfl) (rv_eq rfl)) (congrArg V.bl (by
          by_cases h : j = i
          · subst h
            simp
          · have : ¬ (j : Int) = 0 + (i : Int) := by omega
            rw [decide_eq_false h, decide_eq_false (fun z => this (V.int.inj z))])))) (given_bools 18 _) (by simp)
      rw [List.map_map] at z
      exact EvP.imp z fun v' H' z' => Da.le (n := 1) (by decide) z'
  · rintro σ' H10 ⟨x, rfl, e10⟩
    have r1 : Rp M0 H10 1 (.str z1) (.str z1) := Rp.str
    have r2 : Rp M0 H10 1 (.str z2) (.str z2) := Rp.str
    have r3 : Rp M0 H10 1 (.str z3) (.str z3) := Rp.str
    have r4 := hrow9.ex e10
    have r5 : Rp M0 H10 1 (.int n) (.int n) := Rp.int
    have av : ∀ {σ : L2.St} {H1 : Hp} {i : Nat} {v : V} {d : PyData}, σ[i]? = some (some v) → Rp M0 H10 1 v d → Ex H10 H1 → EvP (tVar i) σ H1 (Da 1 d) := fun hs r e => evp_var hs (r.ex e) (Da.mono _ _)
    refine q_asgLP (As := ([.tuple [.str z1, .tuple (l.map .int)], .tuple [.tuple (l.map .int)], .tuple [.tuple (l.map .int)], .tuple [.str z3], .tuple [.tuple (l.map .int)], .tuple [.str z2], .tuple [], .tuple [], .tuple [.int n], .tuple [.int n], .tuple [.int n], .tuple [.tuple (l.map .int)]] : List PyData).map (Da 2)) (elp_lst (eap_cons (evp_tup (n := 1) (ds := [.str z1, .tuple (l.map .int)]) (eap_cons (av (i := 1) rfl r1 (Ex.refl _)) (Da.mono _ _) (eap_cons (av (i := 5) rfl r4 (Ex.refl _)) (Da.mono _ _) eap_nil)) (by show 2 ≤ 1000; decide)) (Da.mono _ _) (eap_cons (evp_tup (n := 1) (ds := [.tuple (l.map .int)]) (eap_cons (av (i := 5) rfl r4 (Ex.refl _)) (Da.mono _ _) eap_nil) (by show 1 ≤ 1000; decide)) (Da.mono _ _) (eap_cons (evp_tup (n := 1) (ds := [.tuple (l.map .int)]) (eap_cons (av (i := 5) rfl r4 (Ex.refl _)) (Da.mono _ _) eap_nil) (by show 1 ≤ 1000; decide)) (Da.mono _ _) (eap_cons (evp_tup (n := 1) (ds := [.str z3]) (eap_cons (av (i := 3) rfl r3 (Ex.refl _)) (Da.mono _ _) eap_nil) (by show 1 ≤ 1000; decide)) (Da.mono _ _) (eap_cons (evp_tup (n := 1) (ds := [.tuple (l.map .int)]) (eap_cons (av (i := 5) rfl r4 (Ex.refl _)) (Da.mono _ _) eap_nil) (by show 1 ≤ 1000; decide)) (Da.mono _ _) (eap_cons (evp_tup (n := 1) (ds := [.str z2]) (eap_cons (av (i := 2) rfl r2 (Ex.refl _)) (Da.mono _ _) eap_nil) (by show 1 ≤ 1000; decide)) (Da.mono _ _) (eap_cons (evp_tup (n := 1) (ds := []) eap_nil (by show 0 ≤ 1000; decide)) (Da.mono _ _) (eap_cons (evp_tup (n := 1) (ds := []) eap_nil (by show 0 ≤ 1000; decide)) (Da.mono _ _) (eap_cons (evp_tup (n := 1) (ds := [.int n]) (eap_cons (av (i := 4) rfl r5 (Ex.refl _)) (Da.mono _ _) eap_nil) (by show 1 ≤ 1000; decide)) (Da.mono _ _) (eap_cons (evp_tup (n := 1) (ds := [.int n]) (eap_cons (av (i := 4) rfl r5 (Ex.refl _)) (Da.mono _ _) eap_nil) (by show 1 ≤ 1000; decide)) (Da.mono _ _) (eap_cons (evp_tup (n := 1) (ds := [.int n]) (eap_cons (av (i := 4) rfl r5 (Ex.refl _)) (Da.mono _ _) eap_nil) (by show 1 ≤ 1000; decide)) (Da.mono _ _) (eap_cons (evp_tup (n := 1) (ds := [.tuple (l.map .int)]) (eap_cons (av (i := 5) rfl r4 (Ex.refl _)) (Da.mono _ _) eap_nil) (by show 1 ≤ 1000; decide)) (Da.mono _ _) eap_nil)))))))))))) (Monos.da _ _) (by show 12 ≤ 1000; decide)) fun p1 vs1 H11 e11 l1 a1 => ?_
    refine q_asgP (A := Da 3 (.list (fieldsD z1 z2 z3 (l.map .int) n))) (EvLP.da (n := 2) (ds := fieldsD z1 z2 z3 (l.map .int) n) (elp_catV (As := ([.tuple [.str z1, .tuple (l.map .int)], .tuple [.tuple (l.map .int)], .tuple [.tuple (l.map .int)], .tuple [.str z3], .tuple [.tuple (l.map .int)], .tuple [.str z2], .tuple [], .tuple [], .tuple [.int n], .tuple [.int n], .tuple [.int n], .tuple [.tuple (l.map .int)]] : List PyData).map (Da 2)) (Bs := ([.tuple [.tuple (l.map .int)], .tuple [.int n], .tuple [.int n], .tuple [.tuple (l.map .int)], .tuple [.int n], .tuple [.int n]] : List PyData).map (Da 2)) (ev_var rfl) l1 a1 (elp_lst (eap_cons (evp_tup (n := 1) (ds := [.tuple (l.map .int)]) (eap_cons (av (i := 5) rfl r4 e11) (Da.mono _ _) eap_nil) (by show 1 ≤ 1000; decide)) (Da.mono _ _) (eap_cons (evp_tup (n := 1) (ds := [.int n]) (eap_cons (av (i := 4) rfl r5 e11) (Da.mono _ _) eap_nil) (by show 1 ≤ 1000; decide)) (Da.mono _ _) (eap_cons (evp_tup (n := 1) (ds := [.int n]) (eap_cons (av (i := 4) rfl r5 e11) (Da.mono _ _) eap_nil) (by show 1 ≤ 1000; decide)) (Da.mono _ _) (eap_cons (evp_tup (n := 1) (ds := [.tuple (l.map .int)]) (eap_cons (av (i := 5) rfl r4 e11) (Da.mono _ _) eap_nil) (by show 1 ≤ 1000; decide)) (Da.mono _ _) (eap_cons (evp_tup (n := 1) (ds := [.int n]) (eap_cons (av (i := 4) rfl r5 e11) (Da.mono _ _) eap_nil) (by show 1 ≤ 1000; decide)) (Da.mono _ _) (eap_cons (evp_tup (n := 1) (ds := [.int n]) (eap_cons (av (i := 4) rfl r5 e11) (Da.mono _ _) eap_nil) (by show 1 ≤ 1000; decide)) (Da.mono _ _) eap_nil)))))) (Monos.da _ _) (by show 6 ≤ 1000; decide)) (Monos.da _ _) (Monos.da _ _) (by show 12 + 6 ≤ 1000; decide)) (by show 18 ≤ 1000; decide)) fun due H12 e12 rdue => ?_
    have E := e10.trans (e11.trans e12)
    exact ⟨_, rfl, q, ws, z1, z2, z3, l, n, rfl, E _ _ l9, pairs_ex (rowsA_mono _ _) E a9, fun v H13 e13 r13 => ⟨_, rfl, v, due, _, rfl, r13, Rp.ex e13 rdue, fun H14 e14 => k _⟩⟩

end
/-! ### what the top has written; the head -/
theorem all_mk {l : PySem.W.OpenLaw} {w : World} {K : PySem.W.Frag} {h : Heap} {mg : Str → Option Value} {fa : Addr} (X : K.In h) (G : h.Ns mainGlobals mg) (hfa : mg "law" = some (.ref fa))
    {f_copied : Addr} {od_copied an_copied : Option Addr} {sl_copied : Array (Option Value)} {oc_copied kV_copied dc_copied pm_copied cd_copied ct_copied : Value}
    {f__law_pool : Addr} {od__law_pool an__law_pool : Option Addr} {sl__law_pool : Array (Option Value)} {oc__law_pool kV__law_pool dc__law_pool pm__law_pool cd__law_pool ct__law_pool : Value}
    {f__law_draw : Addr} {od__law_draw an__law_draw : Option Addr} {sl__law_draw : Array (Option Value)} {oc__law_draw kV__law_draw dc__law_draw pm__law_draw cd__law_draw ct__law_draw : Value}
    {f__law_pick : Addr} {od__law_pick an__law_pick : Option Addr} {sl__law_pick : Array (Option Value)} {oc__law_pick kV__law_pick dc__law_pick pm__law_pick cd__law_pick ct__law_pick : Value}
    {f__law_name : Addr} {od__law_name an__law_name : Option Addr} {sl__law_name : Array (Option Value)} {oc__law_name kV__law_name dc__law_name pm__law_name cd__law_name ct__law_name : Value}
    {f__law_same : Addr} {od__law_same an__law_same : Option Addr} {sl__law_same : Array (Option Value)} {oc__law_same kV__law_same dc__law_same pm__law_same cd__law_same ct__law_same : Value}
    {f__law_flags : Addr} {od__law_flags an__law_flags : Option Addr} {sl__law_flags : Array (Option Value)} {oc__law_flags kV__law_flags dc__law_flags pm__law_flags cd__law_flags ct__law_flags : Value}
    {f__law_made : Addr} {od__law_made an__law_made : Option Addr} {sl__law_made : Array (Option Value)} {oc__law_made kV__law_made dc__law_made pm__law_made cd__law_made ct__law_made : Value}
    {f__law_fields : Addr} {od__law_fields an__law_fields : Option Addr} {sl__law_fields : Array (Option Value)} {oc__law_fields kV__law_fields dc__law_fields pm__law_fields cd__law_fields ct__law_fields : Value}
    {f_law : Addr} {od_law an_law : Option Addr} {sl_law : Array (Option Value)} {oc_law kV_law dc_law pm_law cd_law ct_law : Value}
    {S : Addr}
    {C_InvalidGraph : Addr} {nm_InvalidGraph q_InvalidGraph : Str} {N_InvalidGraph_ : Addr} {bs_InvalidGraph : List Value} {sn_InvalidGraph : List Str} {sub_InvalidGraph : List Value} {ab_InvalidGraph : Bool} {col_InvalidGraph : Option Bool} {dd_InvalidGraph : Option Addr} {m0_InvalidGraph m1_InvalidGraph m2_InvalidGraph m3_InvalidGraph m5_InvalidGraph : Option Value}
    {f_InvalidGraph_i : Addr} {od_InvalidGraph_i an_InvalidGraph_i : Option Addr} {sl_InvalidGraph_i : Array (Option Value)} {oc_InvalidGraph_i kV_InvalidGraph_i dc_InvalidGraph_i pm_InvalidGraph_i cd_InvalidGraph_i ct_InvalidGraph_i : Value}
    {C_InvalidRule : Addr} {nm_InvalidRule q_InvalidRule : Str} {N_InvalidRule_ : Addr} {bs_InvalidRule : List Value} {sn_InvalidRule : List Str} {sub_InvalidRule : List Value} {ab_InvalidRule : Bool} {col_InvalidRule : Option Bool} {dd_InvalidRule : Option Addr} {m0_InvalidRule m1_InvalidRule m2_InvalidRule m3_InvalidRule m5_InvalidRule : Option Value}
    {f_InvalidRule_i : Addr} {od_InvalidRule_i an_InvalidRule_i : Option Addr} {sl_InvalidRule_i : Array (Option Value)} {oc_InvalidRule_i kV_InvalidRule_i dc_InvalidRule_i pm_InvalidRule_i cd_InvalidRule_i ct_InvalidRule_i : Value}
    {C_InvalidSources : Addr} {nm_InvalidSources q_InvalidSources : Str} {N_InvalidSources_ : Addr} {bs_InvalidSources : List Value} {sn_InvalidSources : List Str} {sub_InvalidSources : List Value} {ab_InvalidSources : Bool} {col_InvalidSources : Option Bool} {dd_InvalidSources : Option Addr} {m0_InvalidSources m1_InvalidSources m2_InvalidSources m3_InvalidSources m5_InvalidSources : Option Value}
    {f_InvalidSources_i : Addr} {od_InvalidSources_i an_InvalidSources_i : Option Addr} {sl_InvalidSources_i : Array (Option Value)} {oc_InvalidSources_i kV_InvalidSources_i dc_InvalidSources_i pm_InvalidSources_i cd_InvalidSources_i ct_InvalidSources_i : Value}
    {C_NoModule : Addr} {nm_NoModule q_NoModule : Str} {N_NoModule_ : Addr} {bs_NoModule : List Value} {sn_NoModule : List Str} {sub_NoModule : List Value} {ab_NoModule : Bool} {col_NoModule : Option Bool} {dd_NoModule : Option Addr} {m0_NoModule m1_NoModule m2_NoModule m3_NoModule m5_NoModule : Option Value}
    {f_NoModule_i : Addr} {od_NoModule_i an_NoModule_i : Option Addr} {sl_NoModule_i : Array (Option Value)} {oc_NoModule_i kV_NoModule_i dc_NoModule_i pm_NoModule_i cd_NoModule_i ct_NoModule_i : Value}
    {C_BadDeed : Addr} {nm_BadDeed q_BadDeed : Str} {N_BadDeed_ : Addr} {bs_BadDeed : List Value} {sn_BadDeed : List Str} {sub_BadDeed : List Value} {ab_BadDeed : Bool} {col_BadDeed : Option Bool} {dd_BadDeed : Option Addr} {m0_BadDeed m1_BadDeed m2_BadDeed m3_BadDeed m5_BadDeed : Option Value}
    {f_BadDeed_i : Addr} {od_BadDeed_i an_BadDeed_i : Option Addr} {sl_BadDeed_i : Array (Option Value)} {oc_BadDeed_i kV_BadDeed_i dc_BadDeed_i pm_BadDeed_i cd_BadDeed_i ct_BadDeed_i : Value}
    {C_TooMany : Addr} {nm_TooMany q_TooMany : Str} {N_TooMany_ : Addr} {bs_TooMany : List Value} {sn_TooMany : List Str} {sub_TooMany : List Value} {ab_TooMany : Bool} {col_TooMany : Option Bool} {dd_TooMany : Option Addr} {m0_TooMany m1_TooMany m2_TooMany m3_TooMany m5_TooMany : Option Value}
    {f_TooMany_i : Addr} {od_TooMany_i an_TooMany_i : Option Addr} {sl_TooMany_i : Array (Option Value)} {oc_TooMany_i kV_TooMany_i dc_TooMany_i pm_TooMany_i cd_TooMany_i ct_TooMany_i : Value}
    {C_NotAState : Addr} {nm_NotAState q_NotAState : Str} {N_NotAState_ : Addr} {bs_NotAState : List Value} {sn_NotAState : List Str} {sub_NotAState : List Value} {ab_NotAState : Bool} {col_NotAState : Option Bool} {dd_NotAState : Option Addr} {m0_NotAState m1_NotAState m2_NotAState m3_NotAState m5_NotAState : Option Value}
    {f_NotAState_i : Addr} {od_NotAState_i an_NotAState_i : Option Addr} {sl_NotAState_i : Array (Option Value)} {oc_NotAState_i kV_NotAState_i dc_NotAState_i pm_NotAState_i cd_NotAState_i ct_NotAState_i : Value}
    {C_NothingToUndo : Addr} {nm_NothingToUndo q_NothingToUndo : Str} {N_NothingToUndo_ : Addr} {bs_NothingToUndo : List Value} {sn_NothingToUndo : List Str} {sub_NothingToUndo : List Value} {ab_NothingToUndo : Bool} {col_NothingToUndo : Option Bool} {dd_NothingToUndo : Option Addr} {m0_NothingToUndo m1_NothingToUndo m2_NothingToUndo m3_NothingToUndo m5_NothingToUndo : Option Value}
    {f_NothingToUndo_i : Addr} {od_NothingToUndo_i an_NothingToUndo_i : Option Addr} {sl_NothingToUndo_i : Array (Option Value)} {oc_NothingToUndo_i kV_NothingToUndo_i dc_NothingToUndo_i pm_NothingToUndo_i cd_NothingToUndo_i ct_NothingToUndo_i : Value}
    {C_BatchRefused : Addr} {nm_BatchRefused q_BatchRefused : Str} {N_BatchRefused_ : Addr} {bs_BatchRefused : List Value} {sn_BatchRefused : List Str} {sub_BatchRefused : List Value} {ab_BatchRefused : Bool} {col_BatchRefused : Option Bool} {dd_BatchRefused : Option Addr} {m0_BatchRefused m1_BatchRefused m2_BatchRefused m3_BatchRefused m5_BatchRefused : Option Value}
    {f_BatchRefused_i : Addr} {od_BatchRefused_i an_BatchRefused_i : Option Addr} {sl_BatchRefused_i : Array (Option Value)} {oc_BatchRefused_i kV_BatchRefused_i dc_BatchRefused_i pm_BatchRefused_i cd_BatchRefused_i ct_BatchRefused_i : Value}
    {C_BadLimit : Addr} {nm_BadLimit q_BadLimit : Str} {N_BadLimit_ : Addr} {bs_BadLimit : List Value} {sn_BadLimit : List Str} {sub_BadLimit : List Value} {ab_BadLimit : Bool} {col_BadLimit : Option Bool} {dd_BadLimit : Option Addr} {m0_BadLimit m1_BadLimit m2_BadLimit m3_BadLimit m5_BadLimit : Option Value}
    {f_BadLimit_i : Addr} {od_BadLimit_i an_BadLimit_i : Option Addr} {sl_BadLimit_i : Array (Option Value)} {oc_BadLimit_i kV_BadLimit_i dc_BadLimit_i pm_BadLimit_i cd_BadLimit_i ct_BadLimit_i : Value}
    {C_TooManyStates : Addr} {nm_TooManyStates q_TooManyStates : Str} {N_TooManyStates_ : Addr} {bs_TooManyStates : List Value} {sn_TooManyStates : List Str} {sub_TooManyStates : List Value} {ab_TooManyStates : Bool} {col_TooManyStates : Option Bool} {dd_TooManyStates : Option Addr} {m0_TooManyStates m1_TooManyStates m2_TooManyStates m3_TooManyStates m5_TooManyStates : Option Value}
    {f_TooManyStates_i : Addr} {od_TooManyStates_i an_TooManyStates_i : Option Addr} {sl_TooManyStates_i : Array (Option Value)} {oc_TooManyStates_i kV_TooManyStates_i dc_TooManyStates_i pm_TooManyStates_i cd_TooManyStates_i ct_TooManyStates_i : Value}
    {C_BadFault : Addr} {nm_BadFault q_BadFault : Str} {N_BadFault_ : Addr} {bs_BadFault : List Value} {sn_BadFault : List Str} {sub_BadFault : List Value} {ab_BadFault : Bool} {col_BadFault : Option Bool} {dd_BadFault : Option Addr} {m0_BadFault m1_BadFault m2_BadFault m3_BadFault m5_BadFault : Option Value}
    {f_BadFault_i : Addr} {od_BadFault_i an_BadFault_i : Option Addr} {sl_BadFault_i : Array (Option Value)} {oc_BadFault_i kV_BadFault_i dc_BadFault_i pm_BadFault_i cd_BadFault_i ct_BadFault_i : Value}
    {C_BadKinds : Addr} {nm_BadKinds q_BadKinds : Str} {N_BadKinds_ : Addr} {bs_BadKinds : List Value} {sn_BadKinds : List Str} {sub_BadKinds : List Value} {ab_BadKinds : Bool} {col_BadKinds : Option Bool} {dd_BadKinds : Option Addr} {m0_BadKinds m1_BadKinds m2_BadKinds m3_BadKinds m5_BadKinds : Option Value}
    {f_BadKinds_i : Addr} {od_BadKinds_i an_BadKinds_i : Option Addr} {sl_BadKinds_i : Array (Option Value)} {oc_BadKinds_i kV_BadKinds_i dc_BadKinds_i pm_BadKinds_i cd_BadKinds_i ct_BadKinds_i : Value}
    {C_BadLength : Addr} {nm_BadLength q_BadLength : Str} {N_BadLength_ : Addr} {bs_BadLength : List Value} {sn_BadLength : List Str} {sub_BadLength : List Value} {ab_BadLength : Bool} {col_BadLength : Option Bool} {dd_BadLength : Option Addr} {m0_BadLength m1_BadLength m2_BadLength m3_BadLength m5_BadLength : Option Value}
    {f_BadLength_i : Addr} {od_BadLength_i an_BadLength_i : Option Addr} {sl_BadLength_i : Array (Option Value)} {oc_BadLength_i kV_BadLength_i dc_BadLength_i pm_BadLength_i cd_BadLength_i ct_BadLength_i : Value}
    {C_BadChoice : Addr} {nm_BadChoice q_BadChoice : Str} {N_BadChoice_ : Addr} {bs_BadChoice : List Value} {sn_BadChoice : List Str} {sub_BadChoice : List Value} {ab_BadChoice : Bool} {col_BadChoice : Option Bool} {dd_BadChoice : Option Addr} {m0_BadChoice m1_BadChoice m2_BadChoice m3_BadChoice m5_BadChoice : Option Value}
    {f_BadChoice_i : Addr} {od_BadChoice_i an_BadChoice_i : Option Addr} {sl_BadChoice_i : Array (Option Value)} {oc_BadChoice_i kV_BadChoice_i dc_BadChoice_i pm_BadChoice_i cd_BadChoice_i ct_BadChoice_i : Value}
    {C_NoPlace : Addr} {nm_NoPlace q_NoPlace : Str} {N_NoPlace_ : Addr} {bs_NoPlace : List Value} {sn_NoPlace : List Str} {sub_NoPlace : List Value} {ab_NoPlace : Bool} {col_NoPlace : Option Bool} {dd_NoPlace : Option Addr} {m0_NoPlace m1_NoPlace m2_NoPlace m3_NoPlace m5_NoPlace : Option Value}
    {f_NoPlace_i : Addr} {od_NoPlace_i an_NoPlace_i : Option Addr} {sl_NoPlace_i : Array (Option Value)} {oc_NoPlace_i kV_NoPlace_i dc_NoPlace_i pm_NoPlace_i cd_NoPlace_i ct_NoPlace_i : Value}
    {C_InvalidText : Addr} {nm_InvalidText q_InvalidText : Str} {N_InvalidText_ : Addr} {bs_InvalidText : List Value} {sn_InvalidText : List Str} {sub_InvalidText : List Value} {ab_InvalidText : Bool} {col_InvalidText : Option Bool} {dd_InvalidText : Option Addr} {m0_InvalidText m1_InvalidText m2_InvalidText m3_InvalidText m5_InvalidText : Option Value}
    {f_InvalidText_i : Addr} {od_InvalidText_i an_InvalidText_i : Option Addr} {sl_InvalidText_i : Array (Option Value)} {oc_InvalidText_i kV_InvalidText_i dc_InvalidText_i pm_InvalidText_i cd_InvalidText_i ct_InvalidText_i : Value}
    {C_DeskRefused : Addr} {nm_DeskRefused q_DeskRefused : Str} {N_DeskRefused_ : Addr} {bs_DeskRefused : List Value} {sn_DeskRefused : List Str} {sub_DeskRefused : List Value} {ab_DeskRefused : Bool} {col_DeskRefused : Option Bool} {dd_DeskRefused : Option Addr} {m0_DeskRefused m1_DeskRefused m2_DeskRefused m3_DeskRefused m5_DeskRefused : Option Value}
    {f_DeskRefused_i : Addr} {od_DeskRefused_i an_DeskRefused_i : Option Addr} {sl_DeskRefused_i : Array (Option Value)} {oc_DeskRefused_i kV_DeskRefused_i dc_DeskRefused_i pm_DeskRefused_i cd_DeskRefused_i ct_DeskRefused_i : Value}
    (a_copied : PySem.W.nsIn K mainGlobals "copied" = some (some (.ref f_copied)))
    (l_copied : K.lookup f_copied = some ⟨oc_copied, od_copied, .func (PySem.W.fnOf "copied" "copied" (defArgs s_copied) (defBody s_copied) (defScope s_copied) .none kV_copied dc_copied pm_copied an_copied cd_copied ct_copied), sl_copied⟩)
    (c_copied : PySem.W.codeIn K cd_copied "copied" = true)
    (k_copied : PySem.W.keepIn K (.ref f_copied) = true)
    (a__law_pool : PySem.W.nsIn K mainGlobals "_law_pool" = some (some (.ref f__law_pool)))
    (l__law_pool : K.lookup f__law_pool = some ⟨oc__law_pool, od__law_pool, .func (PySem.W.fnOf "_law_pool" "_law_pool" (defArgs s__law_pool) (defBody s__law_pool) (defScope s__law_pool) .none kV__law_pool dc__law_pool pm__law_pool an__law_pool cd__law_pool ct__law_pool), sl__law_pool⟩)
    (c__law_pool : PySem.W.codeIn K cd__law_pool "_law_pool" = true)
    (k__law_pool : PySem.W.keepIn K (.ref f__law_pool) = true)
    (a__law_draw : PySem.W.nsIn K mainGlobals "_law_draw" = some (some (.ref f__law_draw)))
    (l__law_draw : K.lookup f__law_draw = some ⟨oc__law_draw, od__law_draw, .func (PySem.W.fnOf "_law_draw" "_law_draw" (defArgs s__law_draw) (defBody s__law_draw) (defScope s__law_draw) .none kV__law_draw dc__law_draw pm__law_draw an__law_draw cd__law_draw ct__law_draw), sl__law_draw⟩)
    (c__law_draw : PySem.W.codeIn K cd__law_draw "_law_draw" = true)
    (k__law_draw : PySem.W.keepIn K (.ref f__law_draw) = true)
    (a__law_pick : PySem.W.nsIn K mainGlobals "_law_pick" = some (some (.ref f__law_pick)))
    (l__law_pick : K.lookup f__law_pick = some ⟨oc__law_pick, od__law_pick, .func (PySem.W.fnOf "_law_pick" "_law_pick" (defArgs s__law_pick) (defBody s__law_pick) (defScope s__law_pick) .none kV__law_pick dc__law_pick pm__law_pick an__law_pick cd__law_pick ct__law_pick), sl__law_pick⟩)
    (c__law_pick : PySem.W.codeIn K cd__law_pick "_law_pick" = true)
    (k__law_pick : PySem.W.keepIn K (.ref f__law_pick) = true)
    (a__law_name : PySem.W.nsIn K mainGlobals "_law_name" = some (some (.ref f__law_name)))
    (l__law_name : K.lookup f__law_name = some ⟨oc__law_name, od__law_name, .func (PySem.W.fnOf "_law_name" "_law_name" (defArgs s__law_name) (defBody s__law_name) (defScope s__law_name) .none kV__law_name dc__law_name pm__law_name an__law_name cd__law_name ct__law_name), sl__law_name⟩)
    (c__law_name : PySem.W.codeIn K cd__law_name "_law_name" = true)
    (k__law_name : PySem.W.keepIn K (.ref f__law_name) = true)
    (a__law_same : PySem.W.nsIn K mainGlobals "_law_same" = some (some (.ref f__law_same)))
    (l__law_same : K.lookup f__law_same = some ⟨oc__law_same, od__law_same, .func (PySem.W.fnOf "_law_same" "_law_same" (defArgs s__law_same) (defBody s__law_same) (defScope s__law_same) .none kV__law_same dc__law_same pm__law_same an__law_same cd__law_same ct__law_same), sl__law_same⟩)
    (c__law_same : PySem.W.codeIn K cd__law_same "_law_same" = true)
    (k__law_same : PySem.W.keepIn K (.ref f__law_same) = true)
    (a__law_flags : PySem.W.nsIn K mainGlobals "_law_flags" = some (some (.ref f__law_flags)))
    (l__law_flags : K.lookup f__law_flags = some ⟨oc__law_flags, od__law_flags, .func (PySem.W.fnOf "_law_flags" "_law_flags" (defArgs s__law_flags) (defBody s__law_flags) (defScope s__law_flags) .none kV__law_flags dc__law_flags pm__law_flags an__law_flags cd__law_flags ct__law_flags), sl__law_flags⟩)
    (c__law_flags : PySem.W.codeIn K cd__law_flags "_law_flags" = true)
    (k__law_flags : PySem.W.keepIn K (.ref f__law_flags) = true)
    (a__law_made : PySem.W.nsIn K mainGlobals "_law_made" = some (some (.ref f__law_made)))
    (l__law_made : K.lookup f__law_made = some ⟨oc__law_made, od__law_made, .func (PySem.W.fnOf "_law_made" "_law_made" (defArgs s__law_made) (defBody s__law_made) (defScope s__law_made) .none kV__law_made dc__law_made pm__law_made an__law_made cd__law_made ct__law_made), sl__law_made⟩)
    (c__law_made : PySem.W.codeIn K cd__law_made "_law_made" = true)
    (k__law_made : PySem.W.keepIn K (.ref f__law_made) = true)
    (a__law_fields : PySem.W.nsIn K mainGlobals "_law_fields" = some (some (.ref f__law_fields)))
    (l__law_fields : K.lookup f__law_fields = some ⟨oc__law_fields, od__law_fields, .func (PySem.W.fnOf "_law_fields" "_law_fields" (defArgs s__law_fields) (defBody s__law_fields) (defScope s__law_fields) .none kV__law_fields dc__law_fields pm__law_fields an__law_fields cd__law_fields ct__law_fields), sl__law_fields⟩)
    (c__law_fields : PySem.W.codeIn K cd__law_fields "_law_fields" = true)
    (k__law_fields : PySem.W.keepIn K (.ref f__law_fields) = true)
    (a_law : PySem.W.nsIn K mainGlobals "law" = some (some (.ref f_law)))
    (l_law : K.lookup f_law = some ⟨oc_law, od_law, .func (PySem.W.fnOf "law" "law" (defArgs s_law) (defBody s_law) (defScope s_law) .none kV_law dc_law pm_law an_law cd_law ct_law), sl_law⟩)
    (c_law : PySem.W.codeIn K cd_law "law" = true)
    (k_law : PySem.W.keepIn K (.ref f_law) = true)
    (a_S : PySem.W.nsIn K mainGlobals "SwapError" = some (some (.ref S)))
    (rd_S : PySem.W.readsIn K S (.type "type") = true)
    (ga_S : PySem.W.specialIn K (.ref S) "__getattribute__" = some (some (.builtin "type.__getattribute__")))
    (vv_S : PySem.W.findCls K (.ref S) (.type "type") "__init__" = some (.val (.builtin "ValueError.__init__")))
    (ic_S : PySem.W.isClsIn K S = true)
    (ty_S : PySem.W.typeIn K (.ref S) = some (.type "type"))
    (ob_n : PySem.W.specialIn K (.builtin "object.__class__") "__get__" = some (some (.builtin "getset_descriptor.__get__")))
    (ob_t : PySem.W.takesIn K (.builtin "object.__class__") = some true)
    (a_InvalidGraph : PySem.W.nsIn K mainGlobals "InvalidGraph" = some (some (.ref C_InvalidGraph)))
    (x_InvalidGraph : K.lookup C_InvalidGraph = some (excClassObj nm_InvalidGraph q_InvalidGraph C_InvalidGraph N_InvalidGraph_ bs_InvalidGraph [.ref S, .type "ValueError", .type "Exception", .type "BaseException", .type "object"] true sn_InvalidGraph sub_InvalidGraph ab_InvalidGraph col_InvalidGraph dd_InvalidGraph m0_InvalidGraph m1_InvalidGraph m2_InvalidGraph m3_InvalidGraph m5_InvalidGraph "ValueError.__new__"))
    (sa_InvalidGraph : PySem.W.findIn K (.ref C_InvalidGraph) "__setattr__" = some (some (.builtin "object.__setattr__")))
    (ga_InvalidGraph : PySem.W.findIn K (.ref C_InvalidGraph) "__getattribute__" = some (some (.builtin "BaseException.__getattribute__")))
    (gg_InvalidGraph : PySem.W.findIn K (.ref C_InvalidGraph) "__getattr__" = some (none))
    (ca_InvalidGraph : PySem.W.findIn K (.ref C_InvalidGraph) "__class__" = some (some (.builtin "object.__class__")))
    (kc_InvalidGraph : PySem.W.keepIn K (.ref C_InvalidGraph) = true)
    (n_InvalidGraph_part : PySem.W.findIn K (.ref C_InvalidGraph) "part" = some none)
    (n_InvalidGraph_path : PySem.W.findIn K (.ref C_InvalidGraph) "path" = some none)
    (ic_InvalidGraph : PySem.W.findIn K (.ref C_InvalidGraph) "__init__" = some (some (.ref f_InvalidGraph_i)))
    (l_InvalidGraph_i : K.lookup f_InvalidGraph_i = some ⟨oc_InvalidGraph_i, od_InvalidGraph_i, .func (PySem.W.fnOf "__init__" "InvalidGraph.__init__" (defArgs s_InvalidGraph___init__) (defBody s_InvalidGraph___init__) (defScope s_InvalidGraph___init__) .none kV_InvalidGraph_i dc_InvalidGraph_i pm_InvalidGraph_i an_InvalidGraph_i cd_InvalidGraph_i ct_InvalidGraph_i), sl_InvalidGraph_i⟩)
    (c_InvalidGraph_i : PySem.W.codeIn K cd_InvalidGraph_i "InvalidGraph.__init__" = true)
    (k_InvalidGraph_i : PySem.W.keepIn K (.ref f_InvalidGraph_i) = true)
    (t_InvalidGraph_i : PySem.W.typeIn K (.ref f_InvalidGraph_i) = some (.type "function"))
    (a_InvalidRule : PySem.W.nsIn K mainGlobals "InvalidRule" = some (some (.ref C_InvalidRule)))
    (x_InvalidRule : K.lookup C_InvalidRule = some (excClassObj nm_InvalidRule q_InvalidRule C_InvalidRule N_InvalidRule_ bs_InvalidRule [.ref S, .type "ValueError", .type "Exception", .type "BaseException", .type "object"] true sn_InvalidRule sub_InvalidRule ab_InvalidRule col_InvalidRule dd_InvalidRule m0_InvalidRule m1_InvalidRule m2_InvalidRule m3_InvalidRule m5_InvalidRule "ValueError.__new__"))
    (sa_InvalidRule : PySem.W.findIn K (.ref C_InvalidRule) "__setattr__" = some (some (.builtin "object.__setattr__")))
    (ga_InvalidRule : PySem.W.findIn K (.ref C_InvalidRule) "__getattribute__" = some (some (.builtin "BaseException.__getattribute__")))
    (gg_InvalidRule : PySem.W.findIn K (.ref C_InvalidRule) "__getattr__" = some (none))
    (ca_InvalidRule : PySem.W.findIn K (.ref C_InvalidRule) "__class__" = some (some (.builtin "object.__class__")))
    (kc_InvalidRule : PySem.W.keepIn K (.ref C_InvalidRule) = true)
    (n_InvalidRule_path : PySem.W.findIn K (.ref C_InvalidRule) "path" = some none)
    (ic_InvalidRule : PySem.W.findIn K (.ref C_InvalidRule) "__init__" = some (some (.ref f_InvalidRule_i)))
    (l_InvalidRule_i : K.lookup f_InvalidRule_i = some ⟨oc_InvalidRule_i, od_InvalidRule_i, .func (PySem.W.fnOf "__init__" "InvalidRule.__init__" (defArgs s_InvalidRule___init__) (defBody s_InvalidRule___init__) (defScope s_InvalidRule___init__) .none kV_InvalidRule_i dc_InvalidRule_i pm_InvalidRule_i an_InvalidRule_i cd_InvalidRule_i ct_InvalidRule_i), sl_InvalidRule_i⟩)
    (c_InvalidRule_i : PySem.W.codeIn K cd_InvalidRule_i "InvalidRule.__init__" = true)
    (k_InvalidRule_i : PySem.W.keepIn K (.ref f_InvalidRule_i) = true)
    (t_InvalidRule_i : PySem.W.typeIn K (.ref f_InvalidRule_i) = some (.type "function"))
    (a_InvalidSources : PySem.W.nsIn K mainGlobals "InvalidSources" = some (some (.ref C_InvalidSources)))
    (x_InvalidSources : K.lookup C_InvalidSources = some (excClassObj nm_InvalidSources q_InvalidSources C_InvalidSources N_InvalidSources_ bs_InvalidSources [.ref S, .type "ValueError", .type "Exception", .type "BaseException", .type "object"] true sn_InvalidSources sub_InvalidSources ab_InvalidSources col_InvalidSources dd_InvalidSources m0_InvalidSources m1_InvalidSources m2_InvalidSources m3_InvalidSources m5_InvalidSources "ValueError.__new__"))
    (sa_InvalidSources : PySem.W.findIn K (.ref C_InvalidSources) "__setattr__" = some (some (.builtin "object.__setattr__")))
    (ga_InvalidSources : PySem.W.findIn K (.ref C_InvalidSources) "__getattribute__" = some (some (.builtin "BaseException.__getattribute__")))
    (gg_InvalidSources : PySem.W.findIn K (.ref C_InvalidSources) "__getattr__" = some (none))
    (ca_InvalidSources : PySem.W.findIn K (.ref C_InvalidSources) "__class__" = some (some (.builtin "object.__class__")))
    (kc_InvalidSources : PySem.W.keepIn K (.ref C_InvalidSources) = true)
    (n_InvalidSources_sources : PySem.W.findIn K (.ref C_InvalidSources) "sources" = some none)
    (ic_InvalidSources : PySem.W.findIn K (.ref C_InvalidSources) "__init__" = some (some (.ref f_InvalidSources_i)))
    (l_InvalidSources_i : K.lookup f_InvalidSources_i = some ⟨oc_InvalidSources_i, od_InvalidSources_i, .func (PySem.W.fnOf "__init__" "InvalidSources.__init__" (defArgs s_InvalidSources___init__) (defBody s_InvalidSources___init__) (defScope s_InvalidSources___init__) .none kV_InvalidSources_i dc_InvalidSources_i pm_InvalidSources_i an_InvalidSources_i cd_InvalidSources_i ct_InvalidSources_i), sl_InvalidSources_i⟩)
    (c_InvalidSources_i : PySem.W.codeIn K cd_InvalidSources_i "InvalidSources.__init__" = true)
    (k_InvalidSources_i : PySem.W.keepIn K (.ref f_InvalidSources_i) = true)
    (t_InvalidSources_i : PySem.W.typeIn K (.ref f_InvalidSources_i) = some (.type "function"))
    (a_NoModule : PySem.W.nsIn K mainGlobals "NoModule" = some (some (.ref C_NoModule)))
    (x_NoModule : K.lookup C_NoModule = some (excClassObj nm_NoModule q_NoModule C_NoModule N_NoModule_ bs_NoModule [.ref S, .type "ValueError", .type "Exception", .type "BaseException", .type "object"] true sn_NoModule sub_NoModule ab_NoModule col_NoModule dd_NoModule m0_NoModule m1_NoModule m2_NoModule m3_NoModule m5_NoModule "ValueError.__new__"))
    (sa_NoModule : PySem.W.findIn K (.ref C_NoModule) "__setattr__" = some (some (.builtin "object.__setattr__")))
    (ga_NoModule : PySem.W.findIn K (.ref C_NoModule) "__getattribute__" = some (some (.builtin "BaseException.__getattribute__")))
    (gg_NoModule : PySem.W.findIn K (.ref C_NoModule) "__getattr__" = some (none))
    (ca_NoModule : PySem.W.findIn K (.ref C_NoModule) "__class__" = some (some (.builtin "object.__class__")))
    (kc_NoModule : PySem.W.keepIn K (.ref C_NoModule) = true)
    (n_NoModule_name : PySem.W.findIn K (.ref C_NoModule) "name" = some none)
    (ic_NoModule : PySem.W.findIn K (.ref C_NoModule) "__init__" = some (some (.ref f_NoModule_i)))
    (l_NoModule_i : K.lookup f_NoModule_i = some ⟨oc_NoModule_i, od_NoModule_i, .func (PySem.W.fnOf "__init__" "NoModule.__init__" (defArgs s_NoModule___init__) (defBody s_NoModule___init__) (defScope s_NoModule___init__) .none kV_NoModule_i dc_NoModule_i pm_NoModule_i an_NoModule_i cd_NoModule_i ct_NoModule_i), sl_NoModule_i⟩)
    (c_NoModule_i : PySem.W.codeIn K cd_NoModule_i "NoModule.__init__" = true)
    (k_NoModule_i : PySem.W.keepIn K (.ref f_NoModule_i) = true)
    (t_NoModule_i : PySem.W.typeIn K (.ref f_NoModule_i) = some (.type "function"))
    (a_BadDeed : PySem.W.nsIn K mainGlobals "BadDeed" = some (some (.ref C_BadDeed)))
    (x_BadDeed : K.lookup C_BadDeed = some (excClassObj nm_BadDeed q_BadDeed C_BadDeed N_BadDeed_ bs_BadDeed [.ref S, .type "ValueError", .type "Exception", .type "BaseException", .type "object"] true sn_BadDeed sub_BadDeed ab_BadDeed col_BadDeed dd_BadDeed m0_BadDeed m1_BadDeed m2_BadDeed m3_BadDeed m5_BadDeed "ValueError.__new__"))
    (sa_BadDeed : PySem.W.findIn K (.ref C_BadDeed) "__setattr__" = some (some (.builtin "object.__setattr__")))
    (ga_BadDeed : PySem.W.findIn K (.ref C_BadDeed) "__getattribute__" = some (some (.builtin "BaseException.__getattribute__")))
    (gg_BadDeed : PySem.W.findIn K (.ref C_BadDeed) "__getattr__" = some (none))
    (ca_BadDeed : PySem.W.findIn K (.ref C_BadDeed) "__class__" = some (some (.builtin "object.__class__")))
    (kc_BadDeed : PySem.W.keepIn K (.ref C_BadDeed) = true)
    (n_BadDeed_deed : PySem.W.findIn K (.ref C_BadDeed) "deed" = some none)
    (ic_BadDeed : PySem.W.findIn K (.ref C_BadDeed) "__init__" = some (some (.ref f_BadDeed_i)))
    (l_BadDeed_i : K.lookup f_BadDeed_i = some ⟨oc_BadDeed_i, od_BadDeed_i, .func (PySem.W.fnOf "__init__" "BadDeed.__init__" (defArgs s_BadDeed___init__) (defBody s_BadDeed___init__) (defScope s_BadDeed___init__) .none kV_BadDeed_i dc_BadDeed_i pm_BadDeed_i an_BadDeed_i cd_BadDeed_i ct_BadDeed_i), sl_BadDeed_i⟩)
    (c_BadDeed_i : PySem.W.codeIn K cd_BadDeed_i "BadDeed.__init__" = true)
    (k_BadDeed_i : PySem.W.keepIn K (.ref f_BadDeed_i) = true)
    (t_BadDeed_i : PySem.W.typeIn K (.ref f_BadDeed_i) = some (.type "function"))
    (a_TooMany : PySem.W.nsIn K mainGlobals "TooMany" = some (some (.ref C_TooMany)))
    (x_TooMany : K.lookup C_TooMany = some (excClassObj nm_TooMany q_TooMany C_TooMany N_TooMany_ bs_TooMany [.ref S, .type "ValueError", .type "Exception", .type "BaseException", .type "object"] true sn_TooMany sub_TooMany ab_TooMany col_TooMany dd_TooMany m0_TooMany m1_TooMany m2_TooMany m3_TooMany m5_TooMany "ValueError.__new__"))
    (sa_TooMany : PySem.W.findIn K (.ref C_TooMany) "__setattr__" = some (some (.builtin "object.__setattr__")))
    (ga_TooMany : PySem.W.findIn K (.ref C_TooMany) "__getattribute__" = some (some (.builtin "BaseException.__getattribute__")))
    (gg_TooMany : PySem.W.findIn K (.ref C_TooMany) "__getattr__" = some (none))
    (ca_TooMany : PySem.W.findIn K (.ref C_TooMany) "__class__" = some (some (.builtin "object.__class__")))
    (kc_TooMany : PySem.W.keepIn K (.ref C_TooMany) = true)
    (n_TooMany_what : PySem.W.findIn K (.ref C_TooMany) "what" = some none)
    (ic_TooMany : PySem.W.findIn K (.ref C_TooMany) "__init__" = some (some (.ref f_TooMany_i)))
    (l_TooMany_i : K.lookup f_TooMany_i = some ⟨oc_TooMany_i, od_TooMany_i, .func (PySem.W.fnOf "__init__" "TooMany.__init__" (defArgs s_TooMany___init__) (defBody s_TooMany___init__) (defScope s_TooMany___init__) .none kV_TooMany_i dc_TooMany_i pm_TooMany_i an_TooMany_i cd_TooMany_i ct_TooMany_i), sl_TooMany_i⟩)
    (c_TooMany_i : PySem.W.codeIn K cd_TooMany_i "TooMany.__init__" = true)
    (k_TooMany_i : PySem.W.keepIn K (.ref f_TooMany_i) = true)
    (t_TooMany_i : PySem.W.typeIn K (.ref f_TooMany_i) = some (.type "function"))
    (a_NotAState : PySem.W.nsIn K mainGlobals "NotAState" = some (some (.ref C_NotAState)))
    (x_NotAState : K.lookup C_NotAState = some (excClassObj nm_NotAState q_NotAState C_NotAState N_NotAState_ bs_NotAState [.ref S, .type "ValueError", .type "Exception", .type "BaseException", .type "object"] true sn_NotAState sub_NotAState ab_NotAState col_NotAState dd_NotAState m0_NotAState m1_NotAState m2_NotAState m3_NotAState m5_NotAState "ValueError.__new__"))
    (sa_NotAState : PySem.W.findIn K (.ref C_NotAState) "__setattr__" = some (some (.builtin "object.__setattr__")))
    (ga_NotAState : PySem.W.findIn K (.ref C_NotAState) "__getattribute__" = some (some (.builtin "BaseException.__getattribute__")))
    (gg_NotAState : PySem.W.findIn K (.ref C_NotAState) "__getattr__" = some (none))
    (ca_NotAState : PySem.W.findIn K (.ref C_NotAState) "__class__" = some (some (.builtin "object.__class__")))
    (kc_NotAState : PySem.W.keepIn K (.ref C_NotAState) = true)
    (ic_NotAState : PySem.W.findIn K (.ref C_NotAState) "__init__" = some (some (.ref f_NotAState_i)))
    (l_NotAState_i : K.lookup f_NotAState_i = some ⟨oc_NotAState_i, od_NotAState_i, .func (PySem.W.fnOf "__init__" "NotAState.__init__" (defArgs s_NotAState___init__) (defBody s_NotAState___init__) (defScope s_NotAState___init__) .none kV_NotAState_i dc_NotAState_i pm_NotAState_i an_NotAState_i cd_NotAState_i ct_NotAState_i), sl_NotAState_i⟩)
    (c_NotAState_i : PySem.W.codeIn K cd_NotAState_i "NotAState.__init__" = true)
    (k_NotAState_i : PySem.W.keepIn K (.ref f_NotAState_i) = true)
    (t_NotAState_i : PySem.W.typeIn K (.ref f_NotAState_i) = some (.type "function"))
    (a_NothingToUndo : PySem.W.nsIn K mainGlobals "NothingToUndo" = some (some (.ref C_NothingToUndo)))
    (x_NothingToUndo : K.lookup C_NothingToUndo = some (excClassObj nm_NothingToUndo q_NothingToUndo C_NothingToUndo N_NothingToUndo_ bs_NothingToUndo [.ref S, .type "ValueError", .type "Exception", .type "BaseException", .type "object"] true sn_NothingToUndo sub_NothingToUndo ab_NothingToUndo col_NothingToUndo dd_NothingToUndo m0_NothingToUndo m1_NothingToUndo m2_NothingToUndo m3_NothingToUndo m5_NothingToUndo "ValueError.__new__"))
    (sa_NothingToUndo : PySem.W.findIn K (.ref C_NothingToUndo) "__setattr__" = some (some (.builtin "object.__setattr__")))
    (ga_NothingToUndo : PySem.W.findIn K (.ref C_NothingToUndo) "__getattribute__" = some (some (.builtin "BaseException.__getattribute__")))
    (gg_NothingToUndo : PySem.W.findIn K (.ref C_NothingToUndo) "__getattr__" = some (none))
    (ca_NothingToUndo : PySem.W.findIn K (.ref C_NothingToUndo) "__class__" = some (some (.builtin "object.__class__")))
    (kc_NothingToUndo : PySem.W.keepIn K (.ref C_NothingToUndo) = true)
    (ic_NothingToUndo : PySem.W.findIn K (.ref C_NothingToUndo) "__init__" = some (some (.ref f_NothingToUndo_i)))
    (l_NothingToUndo_i : K.lookup f_NothingToUndo_i = some ⟨oc_NothingToUndo_i, od_NothingToUndo_i, .func (PySem.W.fnOf "__init__" "NothingToUndo.__init__" (defArgs s_NothingToUndo___init__) (defBody s_NothingToUndo___init__) (defScope s_NothingToUndo___init__) .none kV_NothingToUndo_i dc_NothingToUndo_i pm_NothingToUndo_i an_NothingToUndo_i cd_NothingToUndo_i ct_NothingToUndo_i), sl_NothingToUndo_i⟩)
    (c_NothingToUndo_i : PySem.W.codeIn K cd_NothingToUndo_i "NothingToUndo.__init__" = true)
    (k_NothingToUndo_i : PySem.W.keepIn K (.ref f_NothingToUndo_i) = true)
    (t_NothingToUndo_i : PySem.W.typeIn K (.ref f_NothingToUndo_i) = some (.type "function"))
    (a_BatchRefused : PySem.W.nsIn K mainGlobals "BatchRefused" = some (some (.ref C_BatchRefused)))
    (x_BatchRefused : K.lookup C_BatchRefused = some (excClassObj nm_BatchRefused q_BatchRefused C_BatchRefused N_BatchRefused_ bs_BatchRefused [.ref S, .type "ValueError", .type "Exception", .type "BaseException", .type "object"] true sn_BatchRefused sub_BatchRefused ab_BatchRefused col_BatchRefused dd_BatchRefused m0_BatchRefused m1_BatchRefused m2_BatchRefused m3_BatchRefused m5_BatchRefused "ValueError.__new__"))
    (sa_BatchRefused : PySem.W.findIn K (.ref C_BatchRefused) "__setattr__" = some (some (.builtin "object.__setattr__")))
    (ga_BatchRefused : PySem.W.findIn K (.ref C_BatchRefused) "__getattribute__" = some (some (.builtin "BaseException.__getattribute__")))
    (gg_BatchRefused : PySem.W.findIn K (.ref C_BatchRefused) "__getattr__" = some (none))
    (ca_BatchRefused : PySem.W.findIn K (.ref C_BatchRefused) "__class__" = some (some (.builtin "object.__class__")))
    (kc_BatchRefused : PySem.W.keepIn K (.ref C_BatchRefused) = true)
    (n_BatchRefused_index : PySem.W.findIn K (.ref C_BatchRefused) "index" = some none)
    (ic_BatchRefused : PySem.W.findIn K (.ref C_BatchRefused) "__init__" = some (some (.ref f_BatchRefused_i)))
    (l_BatchRefused_i : K.lookup f_BatchRefused_i = some ⟨oc_BatchRefused_i, od_BatchRefused_i, .func (PySem.W.fnOf "__init__" "BatchRefused.__init__" (defArgs s_BatchRefused___init__) (defBody s_BatchRefused___init__) (defScope s_BatchRefused___init__) .none kV_BatchRefused_i dc_BatchRefused_i pm_BatchRefused_i an_BatchRefused_i cd_BatchRefused_i ct_BatchRefused_i), sl_BatchRefused_i⟩)
    (c_BatchRefused_i : PySem.W.codeIn K cd_BatchRefused_i "BatchRefused.__init__" = true)
    (k_BatchRefused_i : PySem.W.keepIn K (.ref f_BatchRefused_i) = true)
    (t_BatchRefused_i : PySem.W.typeIn K (.ref f_BatchRefused_i) = some (.type "function"))
    (a_BadLimit : PySem.W.nsIn K mainGlobals "BadLimit" = some (some (.ref C_BadLimit)))
    (x_BadLimit : K.lookup C_BadLimit = some (excClassObj nm_BadLimit q_BadLimit C_BadLimit N_BadLimit_ bs_BadLimit [.ref S, .type "ValueError", .type "Exception", .type "BaseException", .type "object"] true sn_BadLimit sub_BadLimit ab_BadLimit col_BadLimit dd_BadLimit m0_BadLimit m1_BadLimit m2_BadLimit m3_BadLimit m5_BadLimit "ValueError.__new__"))
    (sa_BadLimit : PySem.W.findIn K (.ref C_BadLimit) "__setattr__" = some (some (.builtin "object.__setattr__")))
    (ga_BadLimit : PySem.W.findIn K (.ref C_BadLimit) "__getattribute__" = some (some (.builtin "BaseException.__getattribute__")))
    (gg_BadLimit : PySem.W.findIn K (.ref C_BadLimit) "__getattr__" = some (none))
    (ca_BadLimit : PySem.W.findIn K (.ref C_BadLimit) "__class__" = some (some (.builtin "object.__class__")))
    (kc_BadLimit : PySem.W.keepIn K (.ref C_BadLimit) = true)
    (n_BadLimit_limit : PySem.W.findIn K (.ref C_BadLimit) "limit" = some none)
    (ic_BadLimit : PySem.W.findIn K (.ref C_BadLimit) "__init__" = some (some (.ref f_BadLimit_i)))
    (l_BadLimit_i : K.lookup f_BadLimit_i = some ⟨oc_BadLimit_i, od_BadLimit_i, .func (PySem.W.fnOf "__init__" "BadLimit.__init__" (defArgs s_BadLimit___init__) (defBody s_BadLimit___init__) (defScope s_BadLimit___init__) .none kV_BadLimit_i dc_BadLimit_i pm_BadLimit_i an_BadLimit_i cd_BadLimit_i ct_BadLimit_i), sl_BadLimit_i⟩)
    (c_BadLimit_i : PySem.W.codeIn K cd_BadLimit_i "BadLimit.__init__" = true)
    (k_BadLimit_i : PySem.W.keepIn K (.ref f_BadLimit_i) = true)
    (t_BadLimit_i : PySem.W.typeIn K (.ref f_BadLimit_i) = some (.type "function"))
    (a_TooManyStates : PySem.W.nsIn K mainGlobals "TooManyStates" = some (some (.ref C_TooManyStates)))
    (x_TooManyStates : K.lookup C_TooManyStates = some (excClassObj nm_TooManyStates q_TooManyStates C_TooManyStates N_TooManyStates_ bs_TooManyStates [.ref S, .type "ValueError", .type "Exception", .type "BaseException", .type "object"] true sn_TooManyStates sub_TooManyStates ab_TooManyStates col_TooManyStates dd_TooManyStates m0_TooManyStates m1_TooManyStates m2_TooManyStates m3_TooManyStates m5_TooManyStates "ValueError.__new__"))
    (sa_TooManyStates : PySem.W.findIn K (.ref C_TooManyStates) "__setattr__" = some (some (.builtin "object.__setattr__")))
    (ga_TooManyStates : PySem.W.findIn K (.ref C_TooManyStates) "__getattribute__" = some (some (.builtin "BaseException.__getattribute__")))
    (gg_TooManyStates : PySem.W.findIn K (.ref C_TooManyStates) "__getattr__" = some (none))
    (ca_TooManyStates : PySem.W.findIn K (.ref C_TooManyStates) "__class__" = some (some (.builtin "object.__class__")))
    (kc_TooManyStates : PySem.W.keepIn K (.ref C_TooManyStates) = true)
    (n_TooManyStates_limit : PySem.W.findIn K (.ref C_TooManyStates) "limit" = some none)
    (ic_TooManyStates : PySem.W.findIn K (.ref C_TooManyStates) "__init__" = some (some (.ref f_TooManyStates_i)))
    (l_TooManyStates_i : K.lookup f_TooManyStates_i = some ⟨oc_TooManyStates_i, od_TooManyStates_i, .func (PySem.W.fnOf "__init__" "TooManyStates.__init__" (defArgs s_TooManyStates___init__) (defBody s_TooManyStates___init__) (defScope s_TooManyStates___init__) .none kV_TooManyStates_i dc_TooManyStates_i pm_TooManyStates_i an_TooManyStates_i cd_TooManyStates_i ct_TooManyStates_i), sl_TooManyStates_i⟩)
    (c_TooManyStates_i : PySem.W.codeIn K cd_TooManyStates_i "TooManyStates.__init__" = true)
    (k_TooManyStates_i : PySem.W.keepIn K (.ref f_TooManyStates_i) = true)
    (t_TooManyStates_i : PySem.W.typeIn K (.ref f_TooManyStates_i) = some (.type "function"))
    (a_BadFault : PySem.W.nsIn K mainGlobals "BadFault" = some (some (.ref C_BadFault)))
    (x_BadFault : K.lookup C_BadFault = some (excClassObj nm_BadFault q_BadFault C_BadFault N_BadFault_ bs_BadFault [.ref S, .type "ValueError", .type "Exception", .type "BaseException", .type "object"] true sn_BadFault sub_BadFault ab_BadFault col_BadFault dd_BadFault m0_BadFault m1_BadFault m2_BadFault m3_BadFault m5_BadFault "ValueError.__new__"))
    (sa_BadFault : PySem.W.findIn K (.ref C_BadFault) "__setattr__" = some (some (.builtin "object.__setattr__")))
    (ga_BadFault : PySem.W.findIn K (.ref C_BadFault) "__getattribute__" = some (some (.builtin "BaseException.__getattribute__")))
    (gg_BadFault : PySem.W.findIn K (.ref C_BadFault) "__getattr__" = some (none))
    (ca_BadFault : PySem.W.findIn K (.ref C_BadFault) "__class__" = some (some (.builtin "object.__class__")))
    (kc_BadFault : PySem.W.keepIn K (.ref C_BadFault) = true)
    (n_BadFault_fault : PySem.W.findIn K (.ref C_BadFault) "fault" = some none)
    (ic_BadFault : PySem.W.findIn K (.ref C_BadFault) "__init__" = some (some (.ref f_BadFault_i)))
    (l_BadFault_i : K.lookup f_BadFault_i = some ⟨oc_BadFault_i, od_BadFault_i, .func (PySem.W.fnOf "__init__" "BadFault.__init__" (defArgs s_BadFault___init__) (defBody s_BadFault___init__) (defScope s_BadFault___init__) .none kV_BadFault_i dc_BadFault_i pm_BadFault_i an_BadFault_i cd_BadFault_i ct_BadFault_i), sl_BadFault_i⟩)
    (c_BadFault_i : PySem.W.codeIn K cd_BadFault_i "BadFault.__init__" = true)
    (k_BadFault_i : PySem.W.keepIn K (.ref f_BadFault_i) = true)
    (t_BadFault_i : PySem.W.typeIn K (.ref f_BadFault_i) = some (.type "function"))
    (a_BadKinds : PySem.W.nsIn K mainGlobals "BadKinds" = some (some (.ref C_BadKinds)))
    (x_BadKinds : K.lookup C_BadKinds = some (excClassObj nm_BadKinds q_BadKinds C_BadKinds N_BadKinds_ bs_BadKinds [.ref S, .type "ValueError", .type "Exception", .type "BaseException", .type "object"] true sn_BadKinds sub_BadKinds ab_BadKinds col_BadKinds dd_BadKinds m0_BadKinds m1_BadKinds m2_BadKinds m3_BadKinds m5_BadKinds "ValueError.__new__"))
    (sa_BadKinds : PySem.W.findIn K (.ref C_BadKinds) "__setattr__" = some (some (.builtin "object.__setattr__")))
    (ga_BadKinds : PySem.W.findIn K (.ref C_BadKinds) "__getattribute__" = some (some (.builtin "BaseException.__getattribute__")))
    (gg_BadKinds : PySem.W.findIn K (.ref C_BadKinds) "__getattr__" = some (none))
    (ca_BadKinds : PySem.W.findIn K (.ref C_BadKinds) "__class__" = some (some (.builtin "object.__class__")))
    (kc_BadKinds : PySem.W.keepIn K (.ref C_BadKinds) = true)
    (n_BadKinds_kinds : PySem.W.findIn K (.ref C_BadKinds) "kinds" = some none)
    (ic_BadKinds : PySem.W.findIn K (.ref C_BadKinds) "__init__" = some (some (.ref f_BadKinds_i)))
    (l_BadKinds_i : K.lookup f_BadKinds_i = some ⟨oc_BadKinds_i, od_BadKinds_i, .func (PySem.W.fnOf "__init__" "BadKinds.__init__" (defArgs s_BadKinds___init__) (defBody s_BadKinds___init__) (defScope s_BadKinds___init__) .none kV_BadKinds_i dc_BadKinds_i pm_BadKinds_i an_BadKinds_i cd_BadKinds_i ct_BadKinds_i), sl_BadKinds_i⟩)
    (c_BadKinds_i : PySem.W.codeIn K cd_BadKinds_i "BadKinds.__init__" = true)
    (k_BadKinds_i : PySem.W.keepIn K (.ref f_BadKinds_i) = true)
    (t_BadKinds_i : PySem.W.typeIn K (.ref f_BadKinds_i) = some (.type "function"))
    (a_BadLength : PySem.W.nsIn K mainGlobals "BadLength" = some (some (.ref C_BadLength)))
    (x_BadLength : K.lookup C_BadLength = some (excClassObj nm_BadLength q_BadLength C_BadLength N_BadLength_ bs_BadLength [.ref S, .type "ValueError", .type "Exception", .type "BaseException", .type "object"] true sn_BadLength sub_BadLength ab_BadLength col_BadLength dd_BadLength m0_BadLength m1_BadLength m2_BadLength m3_BadLength m5_BadLength "ValueError.__new__"))
    (sa_BadLength : PySem.W.findIn K (.ref C_BadLength) "__setattr__" = some (some (.builtin "object.__setattr__")))
    (ga_BadLength : PySem.W.findIn K (.ref C_BadLength) "__getattribute__" = some (some (.builtin "BaseException.__getattribute__")))
    (gg_BadLength : PySem.W.findIn K (.ref C_BadLength) "__getattr__" = some (none))
    (ca_BadLength : PySem.W.findIn K (.ref C_BadLength) "__class__" = some (some (.builtin "object.__class__")))
    (kc_BadLength : PySem.W.keepIn K (.ref C_BadLength) = true)
    (n_BadLength_length : PySem.W.findIn K (.ref C_BadLength) "length" = some none)
    (ic_BadLength : PySem.W.findIn K (.ref C_BadLength) "__init__" = some (some (.ref f_BadLength_i)))
    (l_BadLength_i : K.lookup f_BadLength_i = some ⟨oc_BadLength_i, od_BadLength_i, .func (PySem.W.fnOf "__init__" "BadLength.__init__" (defArgs s_BadLength___init__) (defBody s_BadLength___init__) (defScope s_BadLength___init__) .none kV_BadLength_i dc_BadLength_i pm_BadLength_i an_BadLength_i cd_BadLength_i ct_BadLength_i), sl_BadLength_i⟩)
    (c_BadLength_i : PySem.W.codeIn K cd_BadLength_i "BadLength.__init__" = true)
    (k_BadLength_i : PySem.W.keepIn K (.ref f_BadLength_i) = true)
    (t_BadLength_i : PySem.W.typeIn K (.ref f_BadLength_i) = some (.type "function"))
    (a_BadChoice : PySem.W.nsIn K mainGlobals "BadChoice" = some (some (.ref C_BadChoice)))
    (x_BadChoice : K.lookup C_BadChoice = some (excClassObj nm_BadChoice q_BadChoice C_BadChoice N_BadChoice_ bs_BadChoice [.ref S, .type "ValueError", .type "Exception", .type "BaseException", .type "object"] true sn_BadChoice sub_BadChoice ab_BadChoice col_BadChoice dd_BadChoice m0_BadChoice m1_BadChoice m2_BadChoice m3_BadChoice m5_BadChoice "ValueError.__new__"))
    (sa_BadChoice : PySem.W.findIn K (.ref C_BadChoice) "__setattr__" = some (some (.builtin "object.__setattr__")))
    (ga_BadChoice : PySem.W.findIn K (.ref C_BadChoice) "__getattribute__" = some (some (.builtin "BaseException.__getattribute__")))
    (gg_BadChoice : PySem.W.findIn K (.ref C_BadChoice) "__getattr__" = some (none))
    (ca_BadChoice : PySem.W.findIn K (.ref C_BadChoice) "__class__" = some (some (.builtin "object.__class__")))
    (kc_BadChoice : PySem.W.keepIn K (.ref C_BadChoice) = true)
    (n_BadChoice_index : PySem.W.findIn K (.ref C_BadChoice) "index" = some none)
    (ic_BadChoice : PySem.W.findIn K (.ref C_BadChoice) "__init__" = some (some (.ref f_BadChoice_i)))
    (l_BadChoice_i : K.lookup f_BadChoice_i = some ⟨oc_BadChoice_i, od_BadChoice_i, .func (PySem.W.fnOf "__init__" "BadChoice.__init__" (defArgs s_BadChoice___init__) (defBody s_BadChoice___init__) (defScope s_BadChoice___init__) .none kV_BadChoice_i dc_BadChoice_i pm_BadChoice_i an_BadChoice_i cd_BadChoice_i ct_BadChoice_i), sl_BadChoice_i⟩)
    (c_BadChoice_i : PySem.W.codeIn K cd_BadChoice_i "BadChoice.__init__" = true)
    (k_BadChoice_i : PySem.W.keepIn K (.ref f_BadChoice_i) = true)
    (t_BadChoice_i : PySem.W.typeIn K (.ref f_BadChoice_i) = some (.type "function"))
    (a_NoPlace : PySem.W.nsIn K mainGlobals "NoPlace" = some (some (.ref C_NoPlace)))
    (x_NoPlace : K.lookup C_NoPlace = some (excClassObj nm_NoPlace q_NoPlace C_NoPlace N_NoPlace_ bs_NoPlace [.ref S, .type "ValueError", .type "Exception", .type "BaseException", .type "object"] true sn_NoPlace sub_NoPlace ab_NoPlace col_NoPlace dd_NoPlace m0_NoPlace m1_NoPlace m2_NoPlace m3_NoPlace m5_NoPlace "ValueError.__new__"))
    (sa_NoPlace : PySem.W.findIn K (.ref C_NoPlace) "__setattr__" = some (some (.builtin "object.__setattr__")))
    (ga_NoPlace : PySem.W.findIn K (.ref C_NoPlace) "__getattribute__" = some (some (.builtin "BaseException.__getattribute__")))
    (gg_NoPlace : PySem.W.findIn K (.ref C_NoPlace) "__getattr__" = some (none))
    (ca_NoPlace : PySem.W.findIn K (.ref C_NoPlace) "__class__" = some (some (.builtin "object.__class__")))
    (kc_NoPlace : PySem.W.keepIn K (.ref C_NoPlace) = true)
    (n_NoPlace_place : PySem.W.findIn K (.ref C_NoPlace) "place" = some none)
    (ic_NoPlace : PySem.W.findIn K (.ref C_NoPlace) "__init__" = some (some (.ref f_NoPlace_i)))
    (l_NoPlace_i : K.lookup f_NoPlace_i = some ⟨oc_NoPlace_i, od_NoPlace_i, .func (PySem.W.fnOf "__init__" "NoPlace.__init__" (defArgs s_NoPlace___init__) (defBody s_NoPlace___init__) (defScope s_NoPlace___init__) .none kV_NoPlace_i dc_NoPlace_i pm_NoPlace_i an_NoPlace_i cd_NoPlace_i ct_NoPlace_i), sl_NoPlace_i⟩)
    (c_NoPlace_i : PySem.W.codeIn K cd_NoPlace_i "NoPlace.__init__" = true)
    (k_NoPlace_i : PySem.W.keepIn K (.ref f_NoPlace_i) = true)
    (t_NoPlace_i : PySem.W.typeIn K (.ref f_NoPlace_i) = some (.type "function"))
    (a_InvalidText : PySem.W.nsIn K mainGlobals "InvalidText" = some (some (.ref C_InvalidText)))
    (x_InvalidText : K.lookup C_InvalidText = some (excClassObj nm_InvalidText q_InvalidText C_InvalidText N_InvalidText_ bs_InvalidText [.ref S, .type "ValueError", .type "Exception", .type "BaseException", .type "object"] true sn_InvalidText sub_InvalidText ab_InvalidText col_InvalidText dd_InvalidText m0_InvalidText m1_InvalidText m2_InvalidText m3_InvalidText m5_InvalidText "ValueError.__new__"))
    (sa_InvalidText : PySem.W.findIn K (.ref C_InvalidText) "__setattr__" = some (some (.builtin "object.__setattr__")))
    (ga_InvalidText : PySem.W.findIn K (.ref C_InvalidText) "__getattribute__" = some (some (.builtin "BaseException.__getattribute__")))
    (gg_InvalidText : PySem.W.findIn K (.ref C_InvalidText) "__getattr__" = some (none))
    (ca_InvalidText : PySem.W.findIn K (.ref C_InvalidText) "__class__" = some (some (.builtin "object.__class__")))
    (kc_InvalidText : PySem.W.keepIn K (.ref C_InvalidText) = true)
    (n_InvalidText_line : PySem.W.findIn K (.ref C_InvalidText) "line" = some none)
    (ic_InvalidText : PySem.W.findIn K (.ref C_InvalidText) "__init__" = some (some (.ref f_InvalidText_i)))
    (l_InvalidText_i : K.lookup f_InvalidText_i = some ⟨oc_InvalidText_i, od_InvalidText_i, .func (PySem.W.fnOf "__init__" "InvalidText.__init__" (defArgs s_InvalidText___init__) (defBody s_InvalidText___init__) (defScope s_InvalidText___init__) .none kV_InvalidText_i dc_InvalidText_i pm_InvalidText_i an_InvalidText_i cd_InvalidText_i ct_InvalidText_i), sl_InvalidText_i⟩)
    (c_InvalidText_i : PySem.W.codeIn K cd_InvalidText_i "InvalidText.__init__" = true)
    (k_InvalidText_i : PySem.W.keepIn K (.ref f_InvalidText_i) = true)
    (t_InvalidText_i : PySem.W.typeIn K (.ref f_InvalidText_i) = some (.type "function"))
    (a_DeskRefused : PySem.W.nsIn K mainGlobals "DeskRefused" = some (some (.ref C_DeskRefused)))
    (x_DeskRefused : K.lookup C_DeskRefused = some (excClassObj nm_DeskRefused q_DeskRefused C_DeskRefused N_DeskRefused_ bs_DeskRefused [.ref S, .type "ValueError", .type "Exception", .type "BaseException", .type "object"] true sn_DeskRefused sub_DeskRefused ab_DeskRefused col_DeskRefused dd_DeskRefused m0_DeskRefused m1_DeskRefused m2_DeskRefused m3_DeskRefused m5_DeskRefused "ValueError.__new__"))
    (sa_DeskRefused : PySem.W.findIn K (.ref C_DeskRefused) "__setattr__" = some (some (.builtin "object.__setattr__")))
    (ga_DeskRefused : PySem.W.findIn K (.ref C_DeskRefused) "__getattribute__" = some (some (.builtin "BaseException.__getattribute__")))
    (gg_DeskRefused : PySem.W.findIn K (.ref C_DeskRefused) "__getattr__" = some (none))
    (ca_DeskRefused : PySem.W.findIn K (.ref C_DeskRefused) "__class__" = some (some (.builtin "object.__class__")))
    (kc_DeskRefused : PySem.W.keepIn K (.ref C_DeskRefused) = true)
    (n_DeskRefused_index : PySem.W.findIn K (.ref C_DeskRefused) "index" = some none)
    (ic_DeskRefused : PySem.W.findIn K (.ref C_DeskRefused) "__init__" = some (some (.ref f_DeskRefused_i)))
    (l_DeskRefused_i : K.lookup f_DeskRefused_i = some ⟨oc_DeskRefused_i, od_DeskRefused_i, .func (PySem.W.fnOf "__init__" "DeskRefused.__init__" (defArgs s_DeskRefused___init__) (defBody s_DeskRefused___init__) (defScope s_DeskRefused___init__) .none kV_DeskRefused_i dc_DeskRefused_i pm_DeskRefused_i an_DeskRefused_i cd_DeskRefused_i ct_DeskRefused_i), sl_DeskRefused_i⟩)
    (c_DeskRefused_i : PySem.W.codeIn K cd_DeskRefused_i "DeskRefused.__init__" = true)
    (k_DeskRefused_i : PySem.W.keepIn K (.ref f_DeskRefused_i) = true)
    (t_DeskRefused_i : PySem.W.typeIn K (.ref f_DeskRefused_i) = some (.type "function"))
    (z_len : PySem.W.nsIn K mainGlobals "len" = some none)
    (z_abs : PySem.W.nsIn K mainGlobals "abs" = some none)
    (z_int : PySem.W.nsIn K mainGlobals "int" = some none)
    (z_isinstance : PySem.W.nsIn K mainGlobals "isinstance" = some none)
    (z_tuple : PySem.W.nsIn K mainGlobals "tuple" = some none)
    (z_list : PySem.W.nsIn K mainGlobals "list" = some none)
    (z_dict : PySem.W.nsIn K mainGlobals "dict" = some none)
    (z_str : PySem.W.nsIn K mainGlobals "str" = some none)
    (z_bool : PySem.W.nsIn K mainGlobals "bool" = some none)
    (z_all : PySem.W.nsIn K mainGlobals "all" = some none)
    (z_range : PySem.W.nsIn K mainGlobals "range" = some none)
    (z_zip : PySem.W.nsIn K mainGlobals "zip" = some none)
    (z_ValueError : PySem.W.nsIn K mainGlobals "ValueError" = some none)
    (hC : ([C_InvalidGraph, C_InvalidRule, C_InvalidSources, C_NoModule, C_BadDeed, C_TooMany, C_NotAState, C_NothingToUndo, C_BatchRefused, C_BadLimit, C_TooManyStates, C_BadFault, C_BadKinds, C_BadLength, C_BadChoice, C_NoPlace, C_InvalidText, C_DeskRefused] : List Addr).Nodup)
    (hCS : S ∉ ([C_InvalidGraph, C_InvalidRule, C_InvalidSources, C_NoModule, C_BadDeed, C_TooMany, C_NotAState, C_NothingToUndo, C_BatchRefused, C_BadLimit, C_TooManyStates, C_BadFault, C_BadKinds, C_BadLength, C_BadChoice, C_NoPlace, C_InvalidText, C_DeskRefused] : List Addr)) :
    ∃ fd : FuncData, (∀ (s : Shared) (v : Value), BindsTo s fd ⟨[v], []⟩ [("_law_script", v)]) ∧ ∀ base : Heap, K.In base → base.Ns mainGlobals mg → FnOk l.prog w K mg base CX0 6 fa fd ["_law_script"] (spLaw K) := by
  have e := hfa.symm.trans (PySem.W.mg_of X G a_law)
  cases e
  have T : Txt K mg := ⟨PySem.W.mg_none_of X G z_len, PySem.W.mg_none_of X G z_abs, PySem.W.mg_none_of X G z_int, PySem.W.mg_none_of X G z_isinstance, PySem.W.mg_none_of X G z_tuple, PySem.W.mg_none_of X G z_list, PySem.W.mg_none_of X G z_dict, PySem.W.mg_none_of X G z_str, PySem.W.mg_none_of X G z_bool, PySem.W.mg_none_of X G z_all, PySem.W.mg_none_of X G z_range, PySem.W.mg_none_of X G z_zip, PySem.W.mg_none_of X G z_ValueError⟩
  have F_copied := fun_mk (st := s_copied) l_copied c_copied k_copied
  have b_copied := F_copied.binds (ps := ["value"]) fun _ _ _ _ _ _ us hl => match us, hl with | [_], _ => rfl
  have m_copied := PySem.W.mg_of X G a_copied
  have F__law_pool := fun_mk (st := s__law_pool) l__law_pool c__law_pool k__law_pool
  have b__law_pool := F__law_pool.binds (ps := ["_law_script"]) fun _ _ _ _ _ _ us hl => match us, hl with | [_], _ => rfl
  have m__law_pool := PySem.W.mg_of X G a__law_pool
  have F__law_draw := fun_mk (st := s__law_draw) l__law_draw c__law_draw k__law_draw
  have b__law_draw := F__law_draw.binds (ps := ["_law_pool_here", "_law_many"]) fun _ _ _ _ _ _ us hl => match us, hl with | [_, _], _ => rfl
  have m__law_draw := PySem.W.mg_of X G a__law_draw
  have F__law_pick := fun_mk (st := s__law_pick) l__law_pick c__law_pick k__law_pick
  have b__law_pick := F__law_pick.binds (ps := ["_law_pool_here", "_law_items"]) fun _ _ _ _ _ _ us hl => match us, hl with | [_, _], _ => rfl
  have m__law_pick := PySem.W.mg_of X G a__law_pick
  have F__law_name := fun_mk (st := s__law_name) l__law_name c__law_name k__law_name
  have b__law_name := F__law_name.binds (ps := ["_law_pool_here", "_law_taken"]) fun _ _ _ _ _ _ us hl => match us, hl with | [_, _], _ => rfl
  have m__law_name := PySem.W.mg_of X G a__law_name
  have F__law_same := fun_mk (st := s__law_same) l__law_same c__law_same k__law_same
  have b__law_same := F__law_same.binds (ps := ["_law_a", "_law_b"]) fun _ _ _ _ _ _ us hl => match us, hl with | [_, _], _ => rfl
  have m__law_same := PySem.W.mg_of X G a__law_same
  have F__law_flags := fun_mk (st := s__law_flags) l__law_flags c__law_flags k__law_flags
  have b__law_flags := F__law_flags.binds (ps := ["_law_e"]) fun _ _ _ _ _ _ us hl => match us, hl with | [_], _ => rfl
  have m__law_flags := PySem.W.mg_of X G a__law_flags
  have F__law_made := fun_mk (st := s__law_made) l__law_made c__law_made k__law_made
  have b__law_made := F__law_made.binds (ps := ["_law_part", "_law_word", "_law_name_here", "_law_row", "_law_n"]) fun _ _ _ _ _ _ us hl => match us, hl with | [_, _, _, _, _], _ => rfl
  have m__law_made := PySem.W.mg_of X G a__law_made
  have F__law_fields := fun_mk (st := s__law_fields) l__law_fields c__law_fields k__law_fields
  have b__law_fields := F__law_fields.binds (ps := ["_law_rows"]) fun _ _ _ _ _ _ us hl => match us, hl with | [_], _ => rfl
  have m__law_fields := PySem.W.mg_of X G a__law_fields
  have F_law := fun_mk (st := s_law) l_law c_law k_law
  have b_law := F_law.binds (ps := ["_law_script"]) fun _ _ _ _ _ _ us hl => match us, hl with | [_], _ => rfl
  have m_law := PySem.W.mg_of X G a_law
  have sup : Sup K mg "SwapError" S := ⟨PySem.W.mg_of X G a_S, ⟨rd_S, ga_S⟩, vv_S⟩
  have sc : SC K S := ⟨ic_S, ty_S⟩
  have ob : Obc K := ⟨ob_n, ob_t⟩
  have F_InvalidGraph_i := fun_mk (st := s_InvalidGraph___init__) l_InvalidGraph_i c_InvalidGraph_i k_InvalidGraph_i
  have b_InvalidGraph_i := F_InvalidGraph_i.binds (ps := ["self", "part", "path"]) fun _ _ _ _ _ _ us hl => match us, hl with | [_, _, _], _ => rfl
  have m_InvalidGraph := PySem.W.mg_of X G a_InvalidGraph
  have xc_InvalidGraph : XC K C_InvalidGraph S := ⟨⟨_, _, _, _, _, _, _, _, _, _, _, _, _, _, x_InvalidGraph⟩, sa_InvalidGraph, ga_InvalidGraph, gg_InvalidGraph, ca_InvalidGraph, kc_InvalidGraph⟩
  have F_InvalidRule_i := fun_mk (st := s_InvalidRule___init__) l_InvalidRule_i c_InvalidRule_i k_InvalidRule_i
  have b_InvalidRule_i := F_InvalidRule_i.binds (ps := ["self", "path"]) fun _ _ _ _ _ _ us hl => match us, hl with | [_, _], _ => rfl
  have m_InvalidRule := PySem.W.mg_of X G a_InvalidRule
  have xc_InvalidRule : XC K C_InvalidRule S := ⟨⟨_, _, _, _, _, _, _, _, _, _, _, _, _, _, x_InvalidRule⟩, sa_InvalidRule, ga_InvalidRule, gg_InvalidRule, ca_InvalidRule, kc_InvalidRule⟩
  have F_InvalidSources_i := fun_mk (st := s_InvalidSources___init__) l_InvalidSources_i c_InvalidSources_i k_InvalidSources_i
  have b_InvalidSources_i := F_InvalidSources_i.binds (ps := ["self", "sources"]) fun _ _ _ _ _ _ us hl => match us, hl with | [_, _], _ => rfl
  have m_InvalidSources := PySem.W.mg_of X G a_InvalidSources
  have xc_InvalidSources : XC K C_InvalidSources S := ⟨⟨_, _, _, _, _, _, _, _, _, _, _, _, _, _, x_InvalidSources⟩, sa_InvalidSources, ga_InvalidSources, gg_InvalidSources, ca_InvalidSources, kc_InvalidSources⟩
  have F_NoModule_i := fun_mk (st := s_NoModule___init__) l_NoModule_i c_NoModule_i k_NoModule_i
  have b_NoModule_i := F_NoModule_i.binds (ps := ["self", "name"]) fun _ _ _ _ _ _ us hl => match us, hl with | [_, _], _ => rfl
  have m_NoModule := PySem.W.mg_of X G a_NoModule
  have xc_NoModule : XC K C_NoModule S := ⟨⟨_, _, _, _, _, _, _, _, _, _, _, _, _, _, x_NoModule⟩, sa_NoModule, ga_NoModule, gg_NoModule, ca_NoModule, kc_NoModule⟩
  have F_BadDeed_i := fun_mk (st := s_BadDeed___init__) l_BadDeed_i c_BadDeed_i k_BadDeed_i
  have b_BadDeed_i := F_BadDeed_i.binds (ps := ["self", "deed"]) fun _ _ _ _ _ _ us hl => match us, hl with | [_, _], _ => rfl
  have m_BadDeed := PySem.W.mg_of X G a_BadDeed
  have xc_BadDeed : XC K C_BadDeed S := ⟨⟨_, _, _, _, _, _, _, _, _, _, _, _, _, _, x_BadDeed⟩, sa_BadDeed, ga_BadDeed, gg_BadDeed, ca_BadDeed, kc_BadDeed⟩
  have F_TooMany_i := fun_mk (st := s_TooMany___init__) l_TooMany_i c_TooMany_i k_TooMany_i
  have b_TooMany_i := F_TooMany_i.binds (ps := ["self", "what"]) fun _ _ _ _ _ _ us hl => match us, hl with | [_, _], _ => rfl
  have m_TooMany := PySem.W.mg_of X G a_TooMany
  have xc_TooMany : XC K C_TooMany S := ⟨⟨_, _, _, _, _, _, _, _, _, _, _, _, _, _, x_TooMany⟩, sa_TooMany, ga_TooMany, gg_TooMany, ca_TooMany, kc_TooMany⟩
  have F_NotAState_i := fun_mk (st := s_NotAState___init__) l_NotAState_i c_NotAState_i k_NotAState_i
  have b_NotAState_i := F_NotAState_i.binds (ps := ["self"]) fun _ _ _ _ _ _ us hl => match us, hl with | [_], _ => rfl
  have m_NotAState := PySem.W.mg_of X G a_NotAState
  have xc_NotAState : XC K C_NotAState S := ⟨⟨_, _, _, _, _, _, _, _, _, _, _, _, _, _, x_NotAState⟩, sa_NotAState, ga_NotAState, gg_NotAState, ca_NotAState, kc_NotAState⟩
  have F_NothingToUndo_i := fun_mk (st := s_NothingToUndo___init__) l_NothingToUndo_i c_NothingToUndo_i k_NothingToUndo_i
  have b_NothingToUndo_i := F_NothingToUndo_i.binds (ps := ["self"]) fun _ _ _ _ _ _ us hl => match us, hl with | [_], _ => rfl
  have m_NothingToUndo := PySem.W.mg_of X G a_NothingToUndo
  have xc_NothingToUndo : XC K C_NothingToUndo S := ⟨⟨_, _, _, _, _, _, _, _, _, _, _, _, _, _, x_NothingToUndo⟩, sa_NothingToUndo, ga_NothingToUndo, gg_NothingToUndo, ca_NothingToUndo, kc_NothingToUndo⟩
  have F_BatchRefused_i := fun_mk (st := s_BatchRefused___init__) l_BatchRefused_i c_BatchRefused_i k_BatchRefused_i
  have b_BatchRefused_i := F_BatchRefused_i.binds (ps := ["self", "index"]) fun _ _ _ _ _ _ us hl => match us, hl with | [_, _], _ => rfl
  have m_BatchRefused := PySem.W.mg_of X G a_BatchRefused
  have xc_BatchRefused : XC K C_BatchRefused S := ⟨⟨_, _, _, _, _, _, _, _, _, _, _, _, _, _, x_BatchRefused⟩, sa_BatchRefused, ga_BatchRefused, gg_BatchRefused, ca_BatchRefused, kc_BatchRefused⟩
  have F_BadLimit_i := fun_mk (st := s_BadLimit___init__) l_BadLimit_i c_BadLimit_i k_BadLimit_i
  have b_BadLimit_i := F_BadLimit_i.binds (ps := ["self", "limit"]) fun _ _ _ _ _ _ us hl => match us, hl with | [_, _], _ => rfl
  have m_BadLimit := PySem.W.mg_of X G a_BadLimit
  have xc_BadLimit : XC K C_BadLimit S := ⟨⟨_, _, _, _, _, _, _, _, _, _, _, _, _, _, x_BadLimit⟩, sa_BadLimit, ga_BadLimit, gg_BadLimit, ca_BadLimit, kc_BadLimit⟩
  have F_TooManyStates_i := fun_mk (st := s_TooManyStates___init__) l_TooManyStates_i c_TooManyStates_i k_TooManyStates_i
  have b_TooManyStates_i := F_TooManyStates_i.binds (ps := ["self", "limit"]) fun _ _ _ _ _ _ us hl => match us, hl with | [_, _], _ => rfl
  have m_TooManyStates := PySem.W.mg_of X G a_TooManyStates
  have xc_TooManyStates : XC K C_TooManyStates S := ⟨⟨_, _, _, _, _, _, _, _, _, _, _, _, _, _, x_TooManyStates⟩, sa_TooManyStates, ga_TooManyStates, gg_TooManyStates, ca_TooManyStates, kc_TooManyStates⟩
  have F_BadFault_i := fun_mk (st := s_BadFault___init__) l_BadFault_i c_BadFault_i k_BadFault_i
  have b_BadFault_i := F_BadFault_i.binds (ps := ["self", "fault"]) fun _ _ _ _ _ _ us hl => match us, hl with | [_, _], _ => rfl
  have m_BadFault := PySem.W.mg_of X G a_BadFault
  have xc_BadFault : XC K C_BadFault S := ⟨⟨_, _, _, _, _, _, _, _, _, _, _, _, _, _, x_BadFault⟩, sa_BadFault, ga_BadFault, gg_BadFault, ca_BadFault, kc_BadFault⟩
  have F_BadKinds_i := fun_mk (st := s_BadKinds___init__) l_BadKinds_i c_BadKinds_i k_BadKinds_i
  have b_BadKinds_i := F_BadKinds_i.binds (ps := ["self", "kinds"]) fun _ _ _ _ _ _ us hl => match us, hl with | [_, _], _ => rfl
  have m_BadKinds := PySem.W.mg_of X G a_BadKinds
  have xc_BadKinds : XC K C_BadKinds S := ⟨⟨_, _, _, _, _, _, _, _, _, _, _, _, _, _, x_BadKinds⟩, sa_BadKinds, ga_BadKinds, gg_BadKinds, ca_BadKinds, kc_BadKinds⟩
  have F_BadLength_i := fun_mk (st := s_BadLength___init__) l_BadLength_i c_BadLength_i k_BadLength_i
  have b_BadLength_i := F_BadLength_i.binds (ps := ["self", "length"]) fun _ _ _ _ _ _ us hl => match us, hl with | [_, _], _ => rfl
  have m_BadLength := PySem.W.mg_of X G a_BadLength
  have xc_BadLength : XC K C_BadLength S := ⟨⟨_, _, _, _, _, _, _, _, _, _, _, _, _, _, x_BadLength⟩, sa_BadLength, ga_BadLength, gg_BadLength, ca_BadLength, kc_BadLength⟩
  have F_BadChoice_i := fun_mk (st := s_BadChoice___init__) l_BadChoice_i c_BadChoice_i k_BadChoice_i
  have b_BadChoice_i := F_BadChoice_i.binds (ps := ["self", "index"]) fun _ _ _ _ _ _ us hl => match us, hl with | [_, _], _ => rfl
  have m_BadChoice := PySem.W.mg_of X G a_BadChoice
  have xc_BadChoice : XC K C_BadChoice S := ⟨⟨_, _, _, _, _, _, _, _, _, _, _, _, _, _, x_BadChoice⟩, sa_BadChoice, ga_BadChoice, gg_BadChoice, ca_BadChoice, kc_BadChoice⟩
  have F_NoPlace_i := fun_mk (st := s_NoPlace___init__) l_NoPlace_i c_NoPlace_i k_NoPlace_i
  have b_NoPlace_i := F_NoPlace_i.binds (ps := ["self", "place"]) fun _ _ _ _ _ _ us hl => match us, hl with | [_, _], _ => rfl
  have m_NoPlace := PySem.W.mg_of X G a_NoPlace
  have xc_NoPlace : XC K C_NoPlace S := ⟨⟨_, _, _, _, _, _, _, _, _, _, _, _, _, _, x_NoPlace⟩, sa_NoPlace, ga_NoPlace, gg_NoPlace, ca_NoPlace, kc_NoPlace⟩
  have F_InvalidText_i := fun_mk (st := s_InvalidText___init__) l_InvalidText_i c_InvalidText_i k_InvalidText_i
  have b_InvalidText_i := F_InvalidText_i.binds (ps := ["self", "line"]) fun _ _ _ _ _ _ us hl => match us, hl with | [_, _], _ => rfl
  have m_InvalidText := PySem.W.mg_of X G a_InvalidText
  have xc_InvalidText : XC K C_InvalidText S := ⟨⟨_, _, _, _, _, _, _, _, _, _, _, _, _, _, x_InvalidText⟩, sa_InvalidText, ga_InvalidText, gg_InvalidText, ca_InvalidText, kc_InvalidText⟩
  have F_DeskRefused_i := fun_mk (st := s_DeskRefused___init__) l_DeskRefused_i c_DeskRefused_i k_DeskRefused_i
  have b_DeskRefused_i := F_DeskRefused_i.binds (ps := ["self", "index"]) fun _ _ _ _ _ _ us hl => match us, hl with | [_, _], _ => rfl
  have m_DeskRefused := PySem.W.mg_of X G a_DeskRefused
  have xc_DeskRefused : XC K C_DeskRefused S := ⟨⟨_, _, _, _, _, _, _, _, _, _, _, _, _, _, x_DeskRefused⟩, sa_DeskRefused, ga_DeskRefused, gg_DeskRefused, ca_DeskRefused, kc_DeskRefused⟩
  refine ⟨PySem.W.fnOf "law" "law" (defArgs s_law) (defBody s_law) (defScope s_law) .none kV_law dc_law pm_law an_law cd_law ct_law, fun s v => .of_eq rfl, fun base _ _ => ?_⟩
  have Dc0 : Df l.prog w K mg base 0 "copied" ["value"] (spC 0) := ⟨f_copied, _, ok_copied0, m_copied, F_copied.kp, b_copied⟩
  have Dc1 : Df l.prog w K mg base 1 "copied" ["value"] (spC 1) := ⟨f_copied, _, ok_copied1 T F_copied Dc0, m_copied, F_copied.kp, b_copied⟩
  have D_copied : Df l.prog w K mg base 2 "copied" ["value"] (spC 2) := ⟨f_copied, _, ok_copied1 T F_copied Dc1, m_copied, F_copied.kp, b_copied⟩
  have Ds0 : Df l.prog w K mg base 0 "_law_same" ["_law_a", "_law_b"] (spS 0) := ⟨f__law_same, _, ok_same0, m__law_same, F__law_same.kp, b__law_same⟩
  have Ds1 : Df l.prog w K mg base 1 "_law_same" ["_law_a", "_law_b"] (spS 1) := ⟨f__law_same, _, ok_same1 T F__law_same Ds0, m__law_same, F__law_same.kp, b__law_same⟩
  have Ds2 : Df l.prog w K mg base 2 "_law_same" ["_law_a", "_law_b"] (spS 2) := ⟨f__law_same, _, ok_same1 T F__law_same Ds1, m__law_same, F__law_same.kp, b__law_same⟩
  have Ds3 : Df l.prog w K mg base 3 "_law_same" ["_law_a", "_law_b"] (spS 3) := ⟨f__law_same, _, ok_same1 T F__law_same Ds2, m__law_same, F__law_same.kp, b__law_same⟩
  have Ds4 : Df l.prog w K mg base 4 "_law_same" ["_law_a", "_law_b"] (spS 4) := ⟨f__law_same, _, ok_same1 T F__law_same Ds3, m__law_same, F__law_same.kp, b__law_same⟩
  have D__law_pool : Df l.prog w K mg base 1 "_law_pool" ["_law_script"] (spPool K) := ⟨f__law_pool, _, ok_pool T F__law_pool, m__law_pool, F__law_pool.kp, b__law_pool⟩
  have D__law_draw : Df l.prog w K mg base 1 "_law_draw" ["_law_pool_here", "_law_many"] (spDraw) := ⟨f__law_draw, _, ok_draw T F__law_draw, m__law_draw, F__law_draw.kp, b__law_draw⟩
  have D__law_pick : Df l.prog w K mg base 2 "_law_pick" ["_law_pool_here", "_law_items"] (spPick K) := ⟨f__law_pick, _, ok_pick T D__law_draw F__law_pick, m__law_pick, F__law_pick.kp, b__law_pick⟩
  have D__law_name : Df l.prog w K mg base 2 "_law_name" ["_law_pool_here", "_law_taken"] (spName K) := ⟨f__law_name, _, ok_name T D__law_draw F__law_name, m__law_name, F__law_name.kp, b__law_name⟩
  have X_InvalidGraph : XD l.prog w K mg base 1 "InvalidGraph" C_InvalidGraph S ["self", "part", "path"] (spE C_InvalidGraph ["part", "path"] [1, 3]) := ⟨f_InvalidGraph_i, _, xc_InvalidGraph, xc_InvalidGraph.oex, ic_InvalidGraph, t_InvalidGraph_i, ok_InvalidGraph T xc_InvalidGraph sup n_InvalidGraph_part n_InvalidGraph_path  F_InvalidGraph_i, b_InvalidGraph_i, m_InvalidGraph⟩
  have X_InvalidRule : XD l.prog w K mg base 1 "InvalidRule" C_InvalidRule S ["self", "path"] (spE C_InvalidRule ["path"] [3]) := ⟨f_InvalidRule_i, _, xc_InvalidRule, xc_InvalidRule.oex, ic_InvalidRule, t_InvalidRule_i, ok_InvalidRule T xc_InvalidRule sup n_InvalidRule_path  F_InvalidRule_i, b_InvalidRule_i, m_InvalidRule⟩
  have X_InvalidSources : XD l.prog w K mg base 3 "InvalidSources" C_InvalidSources S ["self", "sources"] (spE C_InvalidSources ["sources"] [0]) := ⟨f_InvalidSources_i, _, xc_InvalidSources, xc_InvalidSources.oex, ic_InvalidSources, t_InvalidSources_i, ok_InvalidSources T xc_InvalidSources sup n_InvalidSources_sources D_copied F_InvalidSources_i, b_InvalidSources_i, m_InvalidSources⟩
  have X_NoModule : XD l.prog w K mg base 3 "NoModule" C_NoModule S ["self", "name"] (spE C_NoModule ["name"] [0]) := ⟨f_NoModule_i, _, xc_NoModule, xc_NoModule.oex, ic_NoModule, t_NoModule_i, ok_NoModule T xc_NoModule sup n_NoModule_name D_copied F_NoModule_i, b_NoModule_i, m_NoModule⟩
  have X_BadDeed : XD l.prog w K mg base 3 "BadDeed" C_BadDeed S ["self", "deed"] (spE C_BadDeed ["deed"] [0]) := ⟨f_BadDeed_i, _, xc_BadDeed, xc_BadDeed.oex, ic_BadDeed, t_BadDeed_i, ok_BadDeed T xc_BadDeed sup n_BadDeed_deed D_copied F_BadDeed_i, b_BadDeed_i, m_BadDeed⟩
  have X_TooMany : XD l.prog w K mg base 1 "TooMany" C_TooMany S ["self", "what"] (spE C_TooMany ["what"] [1]) := ⟨f_TooMany_i, _, xc_TooMany, xc_TooMany.oex, ic_TooMany, t_TooMany_i, ok_TooMany T xc_TooMany sup n_TooMany_what  F_TooMany_i, b_TooMany_i, m_TooMany⟩
  have X_NotAState : XD l.prog w K mg base 1 "NotAState" C_NotAState S ["self"] (spE C_NotAState [] []) := ⟨f_NotAState_i, _, xc_NotAState, xc_NotAState.oex, ic_NotAState, t_NotAState_i, ok_NotAState T xc_NotAState sup   F_NotAState_i, b_NotAState_i, m_NotAState⟩
  have X_NothingToUndo : XD l.prog w K mg base 1 "NothingToUndo" C_NothingToUndo S ["self"] (spE C_NothingToUndo [] []) := ⟨f_NothingToUndo_i, _, xc_NothingToUndo, xc_NothingToUndo.oex, ic_NothingToUndo, t_NothingToUndo_i, ok_NothingToUndo T xc_NothingToUndo sup   F_NothingToUndo_i, b_NothingToUndo_i, m_NothingToUndo⟩
  have X_BatchRefused : XD l.prog w K mg base 1 "BatchRefused" C_BatchRefused S ["self", "index"] (spE C_BatchRefused ["index"] [2]) := ⟨f_BatchRefused_i, _, xc_BatchRefused, xc_BatchRefused.oex, ic_BatchRefused, t_BatchRefused_i, ok_BatchRefused T xc_BatchRefused sup n_BatchRefused_index  F_BatchRefused_i, b_BatchRefused_i, m_BatchRefused⟩
  have X_BadLimit : XD l.prog w K mg base 3 "BadLimit" C_BadLimit S ["self", "limit"] (spE C_BadLimit ["limit"] [0]) := ⟨f_BadLimit_i, _, xc_BadLimit, xc_BadLimit.oex, ic_BadLimit, t_BadLimit_i, ok_BadLimit T xc_BadLimit sup n_BadLimit_limit D_copied F_BadLimit_i, b_BadLimit_i, m_BadLimit⟩
  have X_TooManyStates : XD l.prog w K mg base 1 "TooManyStates" C_TooManyStates S ["self", "limit"] (spE C_TooManyStates ["limit"] [2]) := ⟨f_TooManyStates_i, _, xc_TooManyStates, xc_TooManyStates.oex, ic_TooManyStates, t_TooManyStates_i, ok_TooManyStates T xc_TooManyStates sup n_TooManyStates_limit  F_TooManyStates_i, b_TooManyStates_i, m_TooManyStates⟩
  have X_BadFault : XD l.prog w K mg base 3 "BadFault" C_BadFault S ["self", "fault"] (spE C_BadFault ["fault"] [0]) := ⟨f_BadFault_i, _, xc_BadFault, xc_BadFault.oex, ic_BadFault, t_BadFault_i, ok_BadFault T xc_BadFault sup n_BadFault_fault D_copied F_BadFault_i, b_BadFault_i, m_BadFault⟩
  have X_BadKinds : XD l.prog w K mg base 3 "BadKinds" C_BadKinds S ["self", "kinds"] (spE C_BadKinds ["kinds"] [0]) := ⟨f_BadKinds_i, _, xc_BadKinds, xc_BadKinds.oex, ic_BadKinds, t_BadKinds_i, ok_BadKinds T xc_BadKinds sup n_BadKinds_kinds D_copied F_BadKinds_i, b_BadKinds_i, m_BadKinds⟩
  have X_BadLength : XD l.prog w K mg base 3 "BadLength" C_BadLength S ["self", "length"] (spE C_BadLength ["length"] [0]) := ⟨f_BadLength_i, _, xc_BadLength, xc_BadLength.oex, ic_BadLength, t_BadLength_i, ok_BadLength T xc_BadLength sup n_BadLength_length D_copied F_BadLength_i, b_BadLength_i, m_BadLength⟩
  have X_BadChoice : XD l.prog w K mg base 1 "BadChoice" C_BadChoice S ["self", "index"] (spE C_BadChoice ["index"] [2]) := ⟨f_BadChoice_i, _, xc_BadChoice, xc_BadChoice.oex, ic_BadChoice, t_BadChoice_i, ok_BadChoice T xc_BadChoice sup n_BadChoice_index  F_BadChoice_i, b_BadChoice_i, m_BadChoice⟩
  have X_NoPlace : XD l.prog w K mg base 3 "NoPlace" C_NoPlace S ["self", "place"] (spE C_NoPlace ["place"] [0]) := ⟨f_NoPlace_i, _, xc_NoPlace, xc_NoPlace.oex, ic_NoPlace, t_NoPlace_i, ok_NoPlace T xc_NoPlace sup n_NoPlace_place D_copied F_NoPlace_i, b_NoPlace_i, m_NoPlace⟩
  have X_InvalidText : XD l.prog w K mg base 1 "InvalidText" C_InvalidText S ["self", "line"] (spE C_InvalidText ["line"] [2]) := ⟨f_InvalidText_i, _, xc_InvalidText, xc_InvalidText.oex, ic_InvalidText, t_InvalidText_i, ok_InvalidText T xc_InvalidText sup n_InvalidText_line  F_InvalidText_i, b_InvalidText_i, m_InvalidText⟩
  have X_DeskRefused : XD l.prog w K mg base 1 "DeskRefused" C_DeskRefused S ["self", "index"] (spE C_DeskRefused ["index"] [2]) := ⟨f_DeskRefused_i, _, xc_DeskRefused, xc_DeskRefused.oex, ic_DeskRefused, t_DeskRefused_i, ok_DeskRefused T xc_DeskRefused sup n_DeskRefused_index  F_DeskRefused_i, b_DeskRefused_i, m_DeskRefused⟩
  have D__law_flags : Df l.prog w K mg base 1 "_law_flags" ["_law_e"] (spFlags K [C_InvalidGraph, C_InvalidRule, C_InvalidSources, C_NoModule, C_BadDeed, C_TooMany, C_NotAState, C_NothingToUndo, C_BatchRefused, C_BadLimit, C_TooManyStates, C_BadFault, C_BadKinds, C_BadLength, C_BadChoice, C_NoPlace, C_InvalidText, C_DeskRefused] S) := ⟨f__law_flags, _, ok_flags T ob m_InvalidGraph m_InvalidRule m_InvalidSources m_NoModule m_BadDeed m_TooMany m_NotAState m_NothingToUndo m_BatchRefused m_BadLimit m_TooManyStates m_BadFault m_BadKinds m_BadLength m_BadChoice m_NoPlace m_InvalidText m_DeskRefused F__law_flags xc_InvalidGraph xc_InvalidRule xc_InvalidSources xc_NoModule xc_BadDeed xc_TooMany xc_NotAState xc_NothingToUndo xc_BatchRefused xc_BadLimit xc_TooManyStates xc_BadFault xc_BadKinds xc_BadLength xc_BadChoice xc_NoPlace xc_InvalidText xc_DeskRefused, m__law_flags, F__law_flags.kp, b__law_flags⟩
  have D__law_made : Df l.prog w K mg base 5 "_law_made" ["_law_part", "_law_word", "_law_name_here", "_law_row", "_law_n"] (spMade [C_InvalidGraph, C_InvalidRule, C_InvalidSources, C_NoModule, C_BadDeed, C_TooMany, C_NotAState, C_NothingToUndo, C_BatchRefused, C_BadLimit, C_TooManyStates, C_BadFault, C_BadKinds, C_BadLength, C_BadChoice, C_NoPlace, C_InvalidText, C_DeskRefused]) := ⟨f__law_made, _, ok_made T X_InvalidGraph X_InvalidRule X_InvalidSources X_NoModule X_BadDeed X_TooMany X_NotAState X_NothingToUndo X_BatchRefused X_BadLimit X_TooManyStates X_BadFault X_BadKinds X_BadLength X_BadChoice X_NoPlace X_InvalidText X_DeskRefused F__law_made, m__law_made, F__law_made.kp, b__law_made⟩
  have D__law_fields : Df l.prog w K mg base 1 "_law_fields" ["_law_rows"] (spFields [C_InvalidGraph, C_InvalidRule, C_InvalidSources, C_NoModule, C_BadDeed, C_TooMany, C_NotAState, C_NothingToUndo, C_BatchRefused, C_BadLimit, C_TooManyStates, C_BadFault, C_BadKinds, C_BadLength, C_BadChoice, C_NoPlace, C_InvalidText, C_DeskRefused]) := ⟨f__law_fields, _, ok_fields T xc_InvalidGraph xc_InvalidRule xc_InvalidSources xc_NoModule xc_BadDeed xc_TooMany xc_NotAState xc_NothingToUndo xc_BatchRefused xc_BadLimit xc_TooManyStates xc_BadFault xc_BadKinds xc_BadLength xc_BadChoice xc_NoPlace xc_InvalidText xc_DeskRefused n_InvalidGraph_part n_InvalidGraph_path n_InvalidRule_path n_InvalidSources_sources n_NoModule_name n_BadDeed_deed n_TooMany_what n_BatchRefused_index n_BadLimit_limit n_TooManyStates_limit n_BadFault_fault n_BadKinds_kinds n_BadLength_length n_BadChoice_index n_NoPlace_place n_InvalidText_line n_DeskRefused_index F__law_fields, m__law_fields, F__law_fields.kp, b__law_fields⟩
  exact ok_law T ob hC hCS sc sup xc_InvalidGraph xc_InvalidRule xc_InvalidSources xc_NoModule xc_BadDeed xc_TooMany xc_NotAState xc_NothingToUndo xc_BatchRefused xc_BadLimit xc_TooManyStates xc_BadFault xc_BadKinds xc_BadLength xc_BadChoice xc_NoPlace xc_InvalidText xc_DeskRefused D__law_pool D__law_draw D__law_pick D__law_name Ds4 D__law_flags D__law_made D__law_fields F_law

theorem walk {l : PySem.W.OpenLaw} {q : Program} {loose : List Str} {XP : (Str → Option Value) → Heap → Prop} {YP : World → Heap → Prop} {d : DefRec} {K : Params → PySem.W.Frag} (hn : l.most = some 63) (hdf : d.params.defaults = [])
    (hY : ∀ (w : World) (h : Heap), YP w h → (K w.params).In h)
    (F : ∀ (w : World) (mg : Str → Option Value) (fa : Addr) (h : Heap), (K w.params).In h → h.Ns mainGlobals mg → mg d.name = some (.ref fa) →
      ∃ fd : FuncData, (∀ (s : Shared) (u : Value), BindsTo s fd ⟨[u], []⟩ [("_law_script", u)]) ∧ ∀ base : Heap, (K w.params).In base → base.Ns mainGlobals mg → FnOk l.prog w (K w.params) mg base CX0 6 fa fd ["_law_script"] (spLaw (K w.params))) :
    PySem.W.WalkO q loose XP YP l.row.toRowW d [] (fun f vs => PySem.call f vs) :=
  L2.walk_of (n := 63) (k := 6) (x := "_law_script") (CX := fun _ => CX0) (sp := fun w => spLaw (K w.params)) hn (by decide) hdf ⟨rfl, by decide, by decide⟩ hY F (fun _ _ a ns hl _ hS => ⟨a, ns, rfl, hS, hl, fun _ => rfl⟩) fun _ _ _ _ _ z => z
end My
set_option Elab.async false
set_option maxRecDepth 100000

open PySem PySem.W PyProof.Rows in
set_option maxRecDepth 100000 in
set_option maxHeartbeats 0 in
theorem PySem.Challenge.cw_swappedhot_k68_errors_apart_holds : PySem.Challenge.rw_swappedhot_k68_errors_apart.Holds := by
  w_on; o_law; k_head; (case hw => w_witness2)
  k_fill
  refine My.walk (l := PySem.Challenge.rw_swappedhot_k68_errors_apart) rfl rfl (fun w h Y => PySem.W.kIn_of Y) ?F
  case F =>
    intro w mg fa h KX G hmg
    refine' My.all_mk KX G hmg ?a_copied ?l_copied ?c_copied ?k_copied ?a__law_pool ?l__law_pool ?c__law_pool ?k__law_pool ?a__law_draw ?l__law_draw ?c__law_draw ?k__law_draw ?a__law_pick ?l__law_pick ?c__law_pick ?k__law_pick ?a__law_name ?l__law_name ?c__law_name ?k__law_name ?a__law_same ?l__law_same ?c__law_same ?k__law_same ?a__law_flags ?l__law_flags ?c__law_flags ?k__law_flags ?a__law_made ?l__law_made ?c__law_made ?k__law_made ?a__law_fields ?l__law_fields ?c__law_fields ?k__law_fields ?a_law ?l_law ?c_law ?k_law ?a_S ?rd_S ?ga_S ?vv_S ?ic_S ?ty_S ?ob_n ?ob_t ?a_InvalidGraph ?x_InvalidGraph ?sa_InvalidGraph ?ga_InvalidGraph ?gg_InvalidGraph ?ca_InvalidGraph ?kc_InvalidGraph ?n_InvalidGraph_part ?n_InvalidGraph_path ?ic_InvalidGraph ?l_InvalidGraph_i ?c_InvalidGraph_i ?k_InvalidGraph_i ?t_InvalidGraph_i ?a_InvalidRule ?x_InvalidRule ?sa_InvalidRule ?ga_InvalidRule ?gg_InvalidRule ?ca_InvalidRule ?kc_InvalidRule ?n_InvalidRule_path ?ic_InvalidRule ?l_InvalidRule_i ?c_InvalidRule_i ?k_InvalidRule_i ?t_InvalidRule_i ?a_InvalidSources ?x_InvalidSources ?sa_InvalidSources ?ga_InvalidSources ?gg_InvalidSources ?ca_InvalidSources ?kc_InvalidSources ?n_InvalidSources_sources ?ic_InvalidSources ?l_InvalidSources_i ?c_InvalidSources_i ?k_InvalidSources_i ?t_InvalidSources_i ?a_NoModule ?x_NoModule ?sa_NoModule ?ga_NoModule ?gg_NoModule ?ca_NoModule ?kc_NoModule ?n_NoModule_name ?ic_NoModule ?l_NoModule_i ?c_NoModule_i ?k_NoModule_i ?t_NoModule_i ?a_BadDeed ?x_BadDeed ?sa_BadDeed ?ga_BadDeed ?gg_BadDeed ?ca_BadDeed ?kc_BadDeed ?n_BadDeed_deed ?ic_BadDeed ?l_BadDeed_i ?c_BadDeed_i ?k_BadDeed_i ?t_BadDeed_i ?a_TooMany ?x_TooMany ?sa_TooMany ?ga_TooMany ?gg_TooMany ?ca_TooMany ?kc_TooMany ?n_TooMany_what ?ic_TooMany ?l_TooMany_i ?c_TooMany_i ?k_TooMany_i ?t_TooMany_i ?a_NotAState ?x_NotAState ?sa_NotAState ?ga_NotAState ?gg_NotAState ?ca_NotAState ?kc_NotAState ?ic_NotAState ?l_NotAState_i ?c_NotAState_i ?k_NotAState_i ?t_NotAState_i ?a_NothingToUndo ?x_NothingToUndo ?sa_NothingToUndo ?ga_NothingToUndo ?gg_NothingToUndo ?ca_NothingToUndo ?kc_NothingToUndo ?ic_NothingToUndo ?l_NothingToUndo_i ?c_NothingToUndo_i ?k_NothingToUndo_i ?t_NothingToUndo_i ?a_BatchRefused ?x_BatchRefused ?sa_BatchRefused ?ga_BatchRefused ?gg_BatchRefused ?ca_BatchRefused ?kc_BatchRefused ?n_BatchRefused_index ?ic_BatchRefused ?l_BatchRefused_i ?c_BatchRefused_i ?k_BatchRefused_i ?t_BatchRefused_i ?a_BadLimit ?x_BadLimit ?sa_BadLimit ?ga_BadLimit ?gg_BadLimit ?ca_BadLimit ?kc_BadLimit ?n_BadLimit_limit ?ic_BadLimit ?l_BadLimit_i ?c_BadLimit_i ?k_BadLimit_i ?t_BadLimit_i ?a_TooManyStates ?x_TooManyStates ?sa_TooManyStates ?ga_TooManyStates ?gg_TooManyStates ?ca_TooManyStates ?kc_TooManyStates ?n_TooManyStates_limit ?ic_TooManyStates ?l_TooManyStates_i ?c_TooManyStates_i ?k_TooManyStates_i ?t_TooManyStates_i ?a_BadFault ?x_BadFault ?sa_BadFault ?ga_BadFault ?gg_BadFault ?ca_BadFault ?kc_BadFault ?n_BadFault_fault ?ic_BadFault ?l_BadFault_i ?c_BadFault_i ?k_BadFault_i ?t_BadFault_i ?a_BadKinds ?x_BadKinds ?sa_BadKinds ?ga_BadKinds ?gg_BadKinds ?ca_BadKinds ?kc_BadKinds ?n_BadKinds_kinds ?ic_BadKinds ?l_BadKinds_i ?c_BadKinds_i ?k_BadKinds_i ?t_BadKinds_i ?a_BadLength ?x_BadLength ?sa_BadLength ?ga_BadLength ?gg_BadLength ?ca_BadLength ?kc_BadLength ?n_BadLength_length ?ic_BadLength ?l_BadLength_i ?c_BadLength_i ?k_BadLength_i ?t_BadLength_i ?a_BadChoice ?x_BadChoice ?sa_BadChoice ?ga_BadChoice ?gg_BadChoice ?ca_BadChoice ?kc_BadChoice ?n_BadChoice_index ?ic_BadChoice ?l_BadChoice_i ?c_BadChoice_i ?k_BadChoice_i ?t_BadChoice_i ?a_NoPlace ?x_NoPlace ?sa_NoPlace ?ga_NoPlace ?gg_NoPlace ?ca_NoPlace ?kc_NoPlace ?n_NoPlace_place ?ic_NoPlace ?l_NoPlace_i ?c_NoPlace_i ?k_NoPlace_i ?t_NoPlace_i ?a_InvalidText ?x_InvalidText ?sa_InvalidText ?ga_InvalidText ?gg_InvalidText ?ca_InvalidText ?kc_InvalidText ?n_InvalidText_line ?ic_InvalidText ?l_InvalidText_i ?c_InvalidText_i ?k_InvalidText_i ?t_InvalidText_i ?a_DeskRefused ?x_DeskRefused ?sa_DeskRefused ?ga_DeskRefused ?gg_DeskRefused ?ca_DeskRefused ?kc_DeskRefused ?n_DeskRefused_index ?ic_DeskRefused ?l_DeskRefused_i ?c_DeskRefused_i ?k_DeskRefused_i ?t_DeskRefused_i ?z_len ?z_abs ?z_int ?z_isinstance ?z_tuple ?z_list ?z_dict ?z_str ?z_bool ?z_all ?z_range ?z_zip ?z_ValueError ?hC ?hCS
    (case a_copied => k_is)
    (case l_copied => k_is)
    (case c_copied => k_is)
    (case k_copied => k_is)
    (case a__law_pool => k_is)
    (case l__law_pool => k_is)
    (case c__law_pool => k_is)
    (case k__law_pool => k_is)
    (case a__law_draw => k_is)
    (case l__law_draw => k_is)
    (case c__law_draw => k_is)
    (case k__law_draw => k_is)
    (case a__law_pick => k_is)
    (case l__law_pick => k_is)
    (case c__law_pick => k_is)
    (case k__law_pick => k_is)
    (case a__law_name => k_is)
    (case l__law_name => k_is)
    (case c__law_name => k_is)
    (case k__law_name => k_is)
    (case a__law_same => k_is)
    (case l__law_same => k_is)
    (case c__law_same => k_is)
    (case k__law_same => k_is)
    (case a__law_flags => k_is)
    (case l__law_flags => k_is)
    (case c__law_flags => k_is)
    (case k__law_flags => k_is)
    (case a__law_made => k_is)
    (case l__law_made => k_is)
    (case c__law_made => k_is)
    (case k__law_made => k_is)
    (case a__law_fields => k_is)
    (case l__law_fields => k_is)
    (case c__law_fields => k_is)
    (case k__law_fields => k_is)
    (case a_law => k_is)
    (case l_law => k_is)
    (case c_law => k_is)
    (case k_law => k_is)
    (case a_S => k_is)
    (case rd_S => k_is)
    (case ga_S => k_is)
    (case vv_S => k_is)
    (case ic_S => k_is)
    (case ty_S => k_is)
    (case ob_n => k_is)
    (case ob_t => k_is)
    (case a_InvalidGraph => k_is)
    (case x_InvalidGraph => k_is)
    (case sa_InvalidGraph => k_is)
    (case ga_InvalidGraph => k_is)
    (case gg_InvalidGraph => k_is)
    (case ca_InvalidGraph => k_is)
    (case kc_InvalidGraph => k_is)
    (case n_InvalidGraph_part => k_is)
    (case n_InvalidGraph_path => k_is)
    (case ic_InvalidGraph => k_is)
    (case l_InvalidGraph_i => k_is)
    (case c_InvalidGraph_i => k_is)
    (case k_InvalidGraph_i => k_is)
    (case t_InvalidGraph_i => k_is)
    (case a_InvalidRule => k_is)
    (case x_InvalidRule => k_is)
    (case sa_InvalidRule => k_is)
    (case ga_InvalidRule => k_is)
    (case gg_InvalidRule => k_is)
    (case ca_InvalidRule => k_is)
    (case kc_InvalidRule => k_is)
    (case n_InvalidRule_path => k_is)
    (case ic_InvalidRule => k_is)
    (case l_InvalidRule_i => k_is)
    (case c_InvalidRule_i => k_is)
    (case k_InvalidRule_i => k_is)
    (case t_InvalidRule_i => k_is)
    (case a_InvalidSources => k_is)
    (case x_InvalidSources => k_is)
    (case sa_InvalidSources => k_is)
    (case ga_InvalidSources => k_is)
    (case gg_InvalidSources => k_is)
    (case ca_InvalidSources => k_is)
    (case kc_InvalidSources => k_is)
    (case n_InvalidSources_sources => k_is)
    (case ic_InvalidSources => k_is)
    (case l_InvalidSources_i => k_is)
    (case c_InvalidSources_i => k_is)
    (case k_InvalidSources_i => k_is)
    (case t_InvalidSources_i => k_is)
    (case a_NoModule => k_is)
    (case x_NoModule => k_is)
    (case sa_NoModule => k_is)
    (case ga_NoModule => k_is)
    (case gg_NoModule => k_is)
    (case ca_NoModule => k_is)
    (case kc_NoModule => k_is)
    (case n_NoModule_name => k_is)
    (case ic_NoModule => k_is)
    (case l_NoModule_i => k_is)
    (case c_NoModule_i => k_is)
    (case k_NoModule_i => k_is)
    (case t_NoModule_i => k_is)
    (case a_BadDeed => k_is)
    (case x_BadDeed => k_is)
    (case sa_BadDeed => k_is)
    (case ga_BadDeed => k_is)
    (case gg_BadDeed => k_is)
    (case ca_BadDeed => k_is)
    (case kc_BadDeed => k_is)
    (case n_BadDeed_deed => k_is)
    (case ic_BadDeed => k_is)
    (case l_BadDeed_i => k_is)
    (case c_BadDeed_i => k_is)
    (case k_BadDeed_i => k_is)
    (case t_BadDeed_i => k_is)
    (case a_TooMany => k_is)
    (case x_TooMany => k_is)
    (case sa_TooMany => k_is)
    (case ga_TooMany => k_is)
    (case gg_TooMany => k_is)
    (case ca_TooMany => k_is)
    (case kc_TooMany => k_is)
    (case n_TooMany_what => k_is)
    (case ic_TooMany => k_is)
    (case l_TooMany_i => k_is)
    (case c_TooMany_i => k_is)
    (case k_TooMany_i => k_is)
    (case t_TooMany_i => k_is)
    (case a_NotAState => k_is)
    (case x_NotAState => k_is)
    (case sa_NotAState => k_is)
    (case ga_NotAState => k_is)
    (case gg_NotAState => k_is)
    (case ca_NotAState => k_is)
    (case kc_NotAState => k_is)
    (case ic_NotAState => k_is)
    (case l_NotAState_i => k_is)
    (case c_NotAState_i => k_is)
    (case k_NotAState_i => k_is)
    (case t_NotAState_i => k_is)
    (case a_NothingToUndo => k_is)
    (case x_NothingToUndo => k_is)
    (case sa_NothingToUndo => k_is)
    (case ga_NothingToUndo => k_is)
    (case gg_NothingToUndo => k_is)
    (case ca_NothingToUndo => k_is)
    (case kc_NothingToUndo => k_is)
    (case ic_NothingToUndo => k_is)
    (case l_NothingToUndo_i => k_is)
    (case c_NothingToUndo_i => k_is)
    (case k_NothingToUndo_i => k_is)
    (case t_NothingToUndo_i => k_is)
    (case a_BatchRefused => k_is)
    (case x_BatchRefused => k_is)
    (case sa_BatchRefused => k_is)
    (case ga_BatchRefused => k_is)
    (case gg_BatchRefused => k_is)
    (case ca_BatchRefused => k_is)
    (case kc_BatchRefused => k_is)
    (case n_BatchRefused_index => k_is)
    (case ic_BatchRefused => k_is)
    (case l_BatchRefused_i => k_is)
    (case c_BatchRefused_i => k_is)
    (case k_BatchRefused_i => k_is)
    (case t_BatchRefused_i => k_is)
    (case a_BadLimit => k_is)
    (case x_BadLimit => k_is)
    (case sa_BadLimit => k_is)
    (case ga_BadLimit => k_is)
    (case gg_BadLimit => k_is)
    (case ca_BadLimit => k_is)
    (case kc_BadLimit => k_is)
    (case n_BadLimit_limit => k_is)
    (case ic_BadLimit => k_is)
    (case l_BadLimit_i => k_is)
    (case c_BadLimit_i => k_is)
    (case k_BadLimit_i => k_is)
    (case t_BadLimit_i => k_is)
    (case a_TooManyStates => k_is)
    (case x_TooManyStates => k_is)
    (case sa_TooManyStates => k_is)
    (case ga_TooManyStates => k_is)
    (case gg_TooManyStates => k_is)
    (case ca_TooManyStates => k_is)
    (case kc_TooManyStates => k_is)
    (case n_TooManyStates_limit => k_is)
    (case ic_TooManyStates => k_is)
    (case l_TooManyStates_i => k_is)
    (case c_TooManyStates_i => k_is)
    (case k_TooManyStates_i => k_is)
    (case t_TooManyStates_i => k_is)
    (case a_BadFault => k_is)
    (case x_BadFault => k_is)
    (case sa_BadFault => k_is)
    (case ga_BadFault => k_is)
    (case gg_BadFault => k_is)
    (case ca_BadFault => k_is)
    (case kc_BadFault => k_is)
    (case n_BadFault_fault => k_is)
    (case ic_BadFault => k_is)
    (case l_BadFault_i => k_is)
    (case c_BadFault_i => k_is)
    (case k_BadFault_i => k_is)
    (case t_BadFault_i => k_is)
    (case a_BadKinds => k_is)
    (case x_BadKinds => k_is)
    (case sa_BadKinds => k_is)
    (case ga_BadKinds => k_is)
    (case gg_BadKinds => k_is)
    (case ca_BadKinds => k_is)
    (case kc_BadKinds => k_is)
    (case n_BadKinds_kinds => k_is)
    (case ic_BadKinds => k_is)
    (case l_BadKinds_i => k_is)
    (case c_BadKinds_i => k_is)
    (case k_BadKinds_i => k_is)
    (case t_BadKinds_i => k_is)
    (case a_BadLength => k_is)
    (case x_BadLength => k_is)
    (case sa_BadLength => k_is)
    (case ga_BadLength => k_is)
    (case gg_BadLength => k_is)
    (case ca_BadLength => k_is)
    (case kc_BadLength => k_is)
    (case n_BadLength_length => k_is)
    (case ic_BadLength => k_is)
    (case l_BadLength_i => k_is)
    (case c_BadLength_i => k_is)
    (case k_BadLength_i => k_is)
    (case t_BadLength_i => k_is)
    (case a_BadChoice => k_is)
    (case x_BadChoice => k_is)
    (case sa_BadChoice => k_is)
    (case ga_BadChoice => k_is)
    (case gg_BadChoice => k_is)
    (case ca_BadChoice => k_is)
    (case kc_BadChoice => k_is)
    (case n_BadChoice_index => k_is)
    (case ic_BadChoice => k_is)
    (case l_BadChoice_i => k_is)
    (case c_BadChoice_i => k_is)
    (case k_BadChoice_i => k_is)
    (case t_BadChoice_i => k_is)
    (case a_NoPlace => k_is)
    (case x_NoPlace => k_is)
    (case sa_NoPlace => k_is)
    (case ga_NoPlace => k_is)
    (case gg_NoPlace => k_is)
    (case ca_NoPlace => k_is)
    (case kc_NoPlace => k_is)
    (case n_NoPlace_place => k_is)
    (case ic_NoPlace => k_is)
    (case l_NoPlace_i => k_is)
    (case c_NoPlace_i => k_is)
    (case k_NoPlace_i => k_is)
    (case t_NoPlace_i => k_is)
    (case a_InvalidText => k_is)
    (case x_InvalidText => k_is)
    (case sa_InvalidText => k_is)
    (case ga_InvalidText => k_is)
    (case gg_InvalidText => k_is)
    (case ca_InvalidText => k_is)
    (case kc_InvalidText => k_is)
    (case n_InvalidText_line => k_is)
    (case ic_InvalidText => k_is)
    (case l_InvalidText_i => k_is)
    (case c_InvalidText_i => k_is)
    (case k_InvalidText_i => k_is)
    (case t_InvalidText_i => k_is)
    (case a_DeskRefused => k_is)
    (case x_DeskRefused => k_is)
    (case sa_DeskRefused => k_is)
    (case ga_DeskRefused => k_is)
    (case gg_DeskRefused => k_is)
    (case ca_DeskRefused => k_is)
    (case kc_DeskRefused => k_is)
    (case n_DeskRefused_index => k_is)
    (case ic_DeskRefused => k_is)
    (case l_DeskRefused_i => k_is)
    (case c_DeskRefused_i => k_is)
    (case k_DeskRefused_i => k_is)
    (case t_DeskRefused_i => k_is)
    (case z_len => k_is)
    (case z_abs => k_is)
    (case z_int => k_is)
    (case z_isinstance => k_is)
    (case z_tuple => k_is)
    (case z_list => k_is)
    (case z_dict => k_is)
    (case z_str => k_is)
    (case z_bool => k_is)
    (case z_all => k_is)
    (case z_range => k_is)
    (case z_zip => k_is)
    (case z_ValueError => k_is)
    (case hC => decide)
    (case hCS => decide)
