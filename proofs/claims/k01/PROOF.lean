import PyProof.Rows.All
import Wide.All
import OpenK.AllK
import Wide.FinOn
import HandS.Base
import HandS.Call
import HandS.List
import HandS.Comp
import HandS.Ends
import HandS.Words
import HandS.Evl
import PyProof.ReprRoads
import PyProof.CallFns
import HandS.Dict
import HandS.EndBits
import HandS.Wide
import HandS.IsInst
import HandS.Deep
import HandS.TupAny
import HandS.Style
import HandS.Replace
import HandS.Text
import KE.DataMinMax
import PyProof.NeKinds
import PySem.Challenge.RW_squeezedkeyer_k01_rules_judged
set_option Elab.async false
set_option linter.all false
set_option maxRecDepth 100000
set_option maxHeartbeats 2000000
/-! states of data, without a heap: what an expression gives, what a block does -/
namespace PW
open PySem L2 Evl

abbrev D := PyData
abbrev Fg := PySem.W.Frag
/-- an object that the body owns and changes -/
inductive MO where
  | lst (ds : List D)
  | dic (kvs : List (Key × D))
  | gone
/-- what a slot holds: data, or the k-th owned object -/
inductive C where
  | dat (d : D)
  | own (k : Nat)
abbrev Dl := List (Option C)
abbrev Ms := List MO

/-! ### data: as the library's, and dicts of texts to leaves -/
def lfD : D → Bool
  | .none => true
  | .bool _ => true
  | .int _ => true
  | .str _ => true
  | _ => false
def lfV : D → V
  | .none => .non
  | .bool b => .bl b
  | .int i => .int i
  | .str x => .str x
  | _ => .non
mutual
inductive Dp (K : Fg) (H : Hp) : V → D → Prop
  | non : Dp K H .non .none
  | bl (b : Bool) : Dp K H (.bl b) (.bool b)
  | int (i : Int) : Dp K H (.int i) (.int i)
  | str (x : Str) : Dp K H (.str x) (.str x)
  | lst {a : Addr} {xs : List V} {ds : List D} : SqL K H a xs → DpAll K H xs ds → Dp K H (.ref a) (.list ds)
  | tup {a : Addr} {xs : List V} {ds : List D} : SqT K H a xs → DpAll K H xs ds → Dp K H (.ref a) (.tuple ds)
  | dic {a : Addr} {ps : List (Str × D)} {ks : List (D × D)} : ks = (ps.map fun p => (PyData.str p.1, p.2)) → L2.Rd H a (.dK (ps.map fun p => ((.inr p.1 : Key), lfV p.2))) → (ps.all fun p => lfD p.2) = true → Dp K H (.ref a) (.dict ks)
inductive DpAll (K : Fg) (H : Hp) : List V → List D → Prop
  | nil : DpAll K H [] []
  | cons {v : V} {vs : List V} {d : D} {ds : List D} : Dp K H v d → DpAll K H vs ds → DpAll K H (v :: vs) (d :: ds)
end
/-! ### data stays when the heap grows -/
mutual
theorem dp_mono {K : Fg} {H H' : Hp} (e : Ex H H') : ∀ (d : D) (v : V), Dp K H v d → Dp K H' v d
  | .none, _, h => by cases h; exact .non
  | .bool b, _, h => by cases h; exact .bl b
  | .int i, _, h => by cases h; exact .int i
  | .str x, _, h => by cases h; exact .str x
  | .list ds, _, h => by
    cases h with
    | lst hs ha => exact .lst (ex_l e hs) (dpa_mono e ds _ ha)
  | .tuple ds, _, h => by
    cases h with
    | tup hs ha => exact .tup (ex_t e hs) (dpa_mono e ds _ ha)
  | .dict _, _, h => by
    cases h with
    | dic h0 h1 h2 => exact .dic h0 (h1.imp (e _ _) fun ⟨o, h⟩ => ⟨o, e _ _ h⟩) h2
theorem dpa_mono {K : Fg} {H H' : Hp} (e : Ex H H') : ∀ (ds : List D) (vs : List V), DpAll K H vs ds → DpAll K H' vs ds
  | [], _, h => by cases h; exact .nil
  | d :: ds, _, h => by
    cases h with
    | cons h1 h2 => exact .cons (dp_mono e d _ h1) (dpa_mono e ds _ h2)
end
theorem Dp.up {K : Fg} {H H' : Hp} {v : V} {d : D} (h : Dp K H v d) (e : Ex H H') : Dp K H' v d := dp_mono e d v h
theorem DpAll.up {K : Fg} {H H' : Hp} {vs : List V} {ds : List D} (h : DpAll K H vs ds) (e : Ex H H') : DpAll K H' vs ds := dpa_mono e ds vs h
section
variable {K : Fg} {H : Hp}
theorem DpAll.length {vs : List V} {ds : List D} (h : DpAll K H vs ds) : vs.length = ds.length := by
  induction vs generalizing ds with
  | nil => cases h; rfl
  | cons v vs ih => cases h with | cons h1 h2 => simp [ih h2]
theorem DpAll.get {vs : List V} {ds : List D} (h : DpAll K H vs ds) {i : Nat} {v : V} (hv : vs[i]? = some v) : ∃ d, ds[i]? = some d ∧ Dp K H v d := by
  induction vs generalizing ds i with
  | nil => simp at hv
  | cons w vs ih =>
    cases h with
    | cons h1 h2 =>
      cases i with
      | zero => simp at hv; subst hv; exact ⟨_, rfl, h1⟩
      | succ i => exact ih h2 (by simpa using hv)
theorem DpAll.got {vs : List V} {ds : List D} (h : DpAll K H vs ds) {i : Nat} {d : D} (hd : ds[i]? = some d) : ∃ v, vs[i]? = some v ∧ Dp K H v d := by
  induction vs generalizing ds i with
  | nil => cases h; simp at hd
  | cons w vs ih =>
    cases h with
    | cons h1 h2 =>
      cases i with
      | zero => simp at hd; subst hd; exact ⟨_, rfl, h1⟩
      | succ i => exact ih h2 (by simpa using hd)
theorem DpAll.app {vs ws : List V} {ds es : List D} (h : DpAll K H vs ds) (g : DpAll K H ws es) : DpAll K H (vs ++ ws) (ds ++ es) := by
  induction vs generalizing ds with
  | nil => cases h; exact g
  | cons v vs ih => cases h with | cons h1 h2 => exact .cons h1 (ih h2)
theorem DpAll.take {vs : List V} {ds : List D} (h : DpAll K H vs ds) (n : Nat) : DpAll K H (vs.take n) (ds.take n) := by
  induction vs generalizing ds n with
  | nil => cases h; simp; exact .nil
  | cons v vs ih =>
    cases h with
    | cons h1 h2 =>
      cases n with
      | zero => exact .nil
      | succ n => exact .cons h1 (ih h2 n)
theorem DpAll.drop {vs : List V} {ds : List D} (h : DpAll K H vs ds) (n : Nat) : DpAll K H (vs.drop n) (ds.drop n) := by
  induction vs generalizing ds n with
  | nil => cases h; simp; exact .nil
  | cons v vs ih =>
    cases h with
    | cons h1 h2 =>
      cases n with
      | zero => exact .cons h1 h2
      | succ n => exact ih h2 n
theorem DpAll.set {vs : List V} {ds : List D} (h : DpAll K H vs ds) (i : Nat) {v : V} {d : D} (g : Dp K H v d) : DpAll K H (vs.set i v) (ds.set i d) := by
  induction vs generalizing ds i with
  | nil => cases h; exact .nil
  | cons w vs ih =>
    cases h with
    | cons h1 h2 =>
      cases i with
      | zero => exact .cons g h2
      | succ i => exact .cons h1 (ih h2 i)
theorem DpAll.rev {vs : List V} {ds : List D} (h : DpAll K H vs ds) : DpAll K H vs.reverse ds.reverse := by
  induction vs generalizing ds with
  | nil => cases h; exact .nil
  | cons v vs ih =>
    cases h with
    | cons h1 h2 =>
      rw [List.reverse_cons, List.reverse_cons]
      exact (ih h2).app (.cons h1 .nil)
theorem DpAll.one {v : V} {d : D} (h : Dp K H v d) : DpAll K H [v] [d] := .cons h .nil
end

/-! ### the relation of a data state to a heap -/
/-- the object at l is m; its items are data of Hd -/
def MAt (K : Fg) (Hd H : Hp) (l : Addr) : MO → Prop
  | .lst ds => Hd l = none ∧ ∃ xs, H l = some (.lst xs) ∧ DpAll K Hd xs ds
  | .dic kvs => Hd l = none ∧ ∃ us : List (Key × V), H l = some (.dK us) ∧ us.map (·.1) = kvs.map (·.1) ∧ DpAll K Hd (us.map (·.2)) (kvs.map (·.2))
  | .gone => Hd l ≠ none
structure Sta (K : Fg) (δ : Dl) (M : Ms) (σ : L2.St) (H Hd : Hp) (ls : List Addr) : Prop where
  sub : Ex Hd H
  mlen : ls.length = M.length
  nd : ls.Nodup
  obj : ∀ (k : Nat) l m, ls[k]? = some l → M[k]? = some m → MAt K Hd H l m
  dlen : σ.length = δ.length
  dat : ∀ (i : Nat) d, δ[i]? = some (some (.dat d)) → ∃ v, σ[i]? = some (some v) ∧ Dp K Hd v d
  own : ∀ (i : Nat) k, δ[i]? = some (some (.own k)) → ∃ l, ls[k]? = some l ∧ σ[i]? = some (some (.ref l))
/-- from one heap to a later one: only the objects at ls have changed, new ones have come -/
structure Step (H Hd : Hp) (ls : List Addr) (H' Hd' : Hp) : Prop where
  ext : Ex Hd Hd'
  old : ∀ a o, H a = some o → a ∉ ls → H' a = some o
  new : ∀ a, H a ≠ none → Hd a = none → Hd' a = none
  there : ∀ a, H a ≠ none → H' a ≠ none
theorem Step.refl {H Hd : Hp} {ls : List Addr} : Step H Hd ls H Hd := ⟨Ex.refl _, fun _ _ h _ => h, fun _ _ h => h, fun _ h => h⟩
theorem Step.trans {H Hd H1 Hd1 H2 Hd2 : Hp} {ls : List Addr} (a : Step H Hd ls H1 Hd1) (b : Step H1 Hd1 ls H2 Hd2) : Step H Hd ls H2 Hd2 :=
  ⟨a.ext.trans b.ext, fun x o h n => b.old x o (a.old x o h n) n, fun x h n => b.new x (a.there x h) (a.new x h n), fun x h => b.there x (a.there x h)⟩
theorem Step.sub {H Hd H1 Hd1 : Hp} {ls ls' : List Addr} (a : Step H Hd ls H1 Hd1) (h : ∀ x, x ∈ ls → H x ≠ none → x ∈ ls') : Step H Hd ls' H1 Hd1 :=
  ⟨a.ext, fun x o e n => a.old x o e fun m => n (h x m (by rw [e]; simp)), a.new, a.there⟩

/-! ### judgements -/
def WE (K : Fg) (t : TE) (δ : Dl) (M : Ms) (R : D → Ms → Prop) : Prop :=
  ∀ σ H Hd ls Q, Sta K δ M σ H Hd ls → (∀ v d M' H' Hd', Sta K δ M' σ H' Hd' ls → Step H Hd ls H' Hd' → Dp K Hd' v d → R d M' → Q v H') → t σ H Q
/-- a fresh list that nothing knows yet -/
def WL (K : Fg) (t : TE) (δ : Dl) (M : Ms) (R : List D → Ms → Prop) : Prop :=
  ∀ σ H Hd ls Q, Sta K δ M σ H Hd ls → (∀ p xs ds M' H' Hd', Sta K δ M' σ H' Hd' ls → Step H Hd ls H' Hd' → H p = none → Hd' p = none → p ∉ ls → H' p = some (.lst xs) → DpAll K Hd' xs ds → R ds M' → Q (.ref p) H') → t σ H Q
/-- a value of the slots' kind -/
def VC (K : Fg) (Hd : Hp) (ls : List Addr) (v : V) : C → Prop
  | .dat d => Dp K Hd v d
  | .own k => ∃ l, ls[k]? = some l ∧ v = .ref l
inductive VCs (K : Fg) (Hd : Hp) (ls : List Addr) : List V → List C → Prop
  | nil : VCs K Hd ls [] []
  | cons {v : V} {c : C} {vs : List V} {cs : List C} : VC K Hd ls v c → VCs K Hd ls vs cs → VCs K Hd ls (v :: vs) (c :: cs)
def WA (K : Fg) (t : TA) (δ : Dl) (M : Ms) (R : List C → Ms → Prop) : Prop :=
  ∀ σ H Hd ls Q, Sta K δ M σ H Hd ls → (∀ vs cs M' H' Hd', Sta K δ M' σ H' Hd' ls → Step H Hd ls H' Hd' → VCs K Hd' ls vs cs → R cs M' → Q vs H') → t σ H Q
def WT (K : Fg) (t : TT) (δ : Dl) (M : Ms) (R : Bool → Ms → Prop) : Prop :=
  ∀ σ H Hd ls Q, Sta K δ M σ H Hd ls → (∀ b M' H' Hd', Sta K δ M' σ H' Hd' ls → Step H Hd ls H' Hd' → R b M' → Q b H') → t σ H Q
/-- where a body began -/
structure Ent where
  H : Hp
  Hd : Hp
  ls : List Addr
structure Run (K : Fg) (e : Ent) (δ : Dl) (M : Ms) (σ : L2.St) (H Hd : Hp) (ls : List Addr) : Prop where
  sta : Sta K δ M σ H Hd ls
  step : Step e.H e.Hd e.ls H Hd
  pre : e.ls <+: ls
  loc : ∀ (k : Nat) l, ls[k]? = some l → e.ls.length ≤ k → e.H l = none
structure Po where
  nx : Dl → Ms → Prop
  rt : D → Ms → Prop
  bk : Dl → Ms → Prop := fun _ _ => False
  ct : Dl → Ms → Prop := fun _ _ => False
def WS (K : Fg) (t : TS) (δ : Dl) (M : Ms) (P : Po) : Prop :=
  ∀ (e : Ent) (σ : L2.St) (H Hd : Hp) (ls : List Addr) (W : Ends), Run K e δ M σ H Hd ls →
    (∀ δ' M' σ' H' Hd' ls', Run K e δ' M' σ' H' Hd' ls' → Ex Hd Hd' → ls <+: ls' → P.nx δ' M' → W.nx σ' H') →
    (∀ v d δ' M' σ' H' Hd' ls', Run K e δ' M' σ' H' Hd' ls' → Ex Hd Hd' → ls <+: ls' → Dp K Hd' v d → P.rt d M' → W.rt v H') →
    (∀ δ' M' σ' H' Hd' ls', Run K e δ' M' σ' H' Hd' ls' → Ex Hd Hd' → ls <+: ls' → P.bk δ' M' → W.bk σ' H') →
    (∀ δ' M' σ' H' Hd' ls', Run K e δ' M' σ' H' Hd' ls' → Ex Hd Hd' → ls <+: ls' → P.ct δ' M' → W.ct σ' H') → t W σ H

section
variable {K : Fg} {δ : Dl} {M M' : Ms} {σ : L2.St} {H Hd H' Hd' : Hp} {ls : List Addr} {e : Ent} {t ta tb : TE}
theorem MAt.up {l : Addr} {m : MO} (h : MAt K Hd H l m) (s : Step H Hd [] H' Hd') : MAt K Hd' H' l m := by
  cases m with
  | lst ds =>
    obtain ⟨n, xs, hx, ha⟩ := h
    exact ⟨s.new l (by rw [hx]; simp) n, xs, s.old l _ hx (by simp), ha.up s.ext⟩
  | dic kvs =>
    obtain ⟨n, us, hx, hk, ha⟩ := h
    exact ⟨s.new l (by rw [hx]; simp) n, us, s.old l _ hx (by simp), hk, ha.up s.ext⟩
  | gone =>
    intro z
    cases e : Hd l with
    | none => exact h e
    | some o => rw [s.ext l o e] at z; cases z
/-- nothing owned has changed -/
theorem Sta.up (a : Sta K δ M σ H Hd ls) (s : Step H Hd [] H' Hd') (x : Ex Hd' H') : Sta K δ M σ H' Hd' ls :=
  ⟨x, a.mlen, a.nd, fun k l m h1 h2 => (a.obj k l m h1 h2).up s, a.dlen, fun i d h => by
    obtain ⟨v, hv, hd⟩ := a.dat i d h
    exact ⟨v, hv, hd.up s.ext⟩, a.own⟩
theorem Step.all {ls' : List Addr} (s : Step H Hd [] H' Hd') : Step H Hd ls' H' Hd' := s.sub fun _ h => by simp at h
theorem Run.go (r : Run K e δ M σ H Hd ls) (a : Sta K δ M' σ H' Hd' ls) (s : Step H Hd ls H' Hd') : Run K e δ M' σ H' Hd' ls := by
  refine ⟨a, ⟨r.step.ext.trans s.ext, fun x o h n => ?_, fun x h n => s.new x (r.step.there x h) (r.step.new x h n), fun x h => s.there x (r.step.there x h)⟩, r.pre, r.loc⟩
  refine s.old x o (r.step.old x o h n) fun hm => ?_
  obtain ⟨k, hk, ek⟩ := List.getElem_of_mem hm
  by_cases hlt : k < e.ls.length
  · obtain ⟨tl, et⟩ := r.pre
    refine n ?_
    have : ls[k]? = e.ls[k]? := by rw [← et, List.getElem?_append_left hlt]
    rw [List.getElem?_eq_getElem hk, ek, List.getElem?_eq_getElem hlt] at this
    rw [Option.some.inj this]
    exact List.getElem_mem hlt
  · have := r.loc k x (by rw [List.getElem?_eq_getElem hk, ek]) (by omega)
    rw [h] at this; cases this
/-- a new object that nothing knows -/
theorem step_new {p : Addr} {o : HO} (h : H p = none) : Step H Hd [] (upd H p o) Hd :=
  ⟨Ex.refl _, fun a u e _ => by rw [upd_ne (ne_of_none e h)]; exact e, fun _ _ n => n, fun a e z => by
    by_cases q : a = p
    · subst q; exact e h
    · rw [upd_ne q] at z; exact e z⟩
theorem not_ls (a : Sta K δ M σ H Hd ls) {p : Addr} (h : H p = none) : p ∉ ls := fun hm => by
  obtain ⟨k, hk, ek⟩ := List.getElem_of_mem hm
  have hM : k < M.length := by rw [← a.mlen]; exact hk
  have := a.obj k p M[k] (by rw [List.getElem?_eq_getElem hk, ek]) (List.getElem?_eq_getElem hM)
  generalize M[k] = m at this
  cases m with
  | lst ds => obtain ⟨_, xs, hx, _⟩ := this; rw [h] at hx; cases hx
  | dic kvs => obtain ⟨_, xs, hx, _⟩ := this; rw [h] at hx; cases hx
  | gone =>
    cases e : Hd p with
    | none => exact this e
    | some o => rw [a.sub p o e] at h; cases h
end
end PW

set_option Elab.async false
set_option linter.all false
set_option maxRecDepth 100000
set_option maxHeartbeats 2000000
namespace PW
open PySem L2 Evl

/-- data arguments -/
def WD (K : Fg) (t : TA) (δ : Dl) (M : Ms) (R : List D → Ms → Prop) : Prop :=
  ∀ σ H Hd ls Q, Sta K δ M σ H Hd ls → (∀ vs ds M' H' Hd', Sta K δ M' σ H' Hd' ls → Step H Hd ls H' Hd' → DpAll K Hd' vs ds → R ds M' → Q vs H') → t σ H Q
/-- an operation on two data, a call on data: nothing that is owned changes -/
def OD (K : Fg) (r : R2) (x y : D) (R : D → Prop) : Prop :=
  ∀ H Hd v w Q, Ex Hd H → Dp K Hd v x → Dp K Hd w y → (∀ z d H' Hd', Step H Hd [] H' Hd' → Ex Hd' H' → Dp K Hd' z d → R d → Q z H') → r v w H Q
def CD (K : Fg) (r : List V → Hp → VK → Prop) (xs : List D) (R : D → Prop) : Prop :=
  ∀ H Hd vs Q, Ex Hd H → DpAll K Hd vs xs → (∀ z d H' Hd', Step H Hd [] H' Hd' → Ex Hd' H' → Dp K Hd' z d → R d → Q z H') → r vs H Q
/-- .. that gives a fresh list -/
def OL (K : Fg) (r : R2) (x y : D) (R : List D → Prop) : Prop :=
  ∀ H Hd v w Q, Ex Hd H → Dp K Hd v x → Dp K Hd w y → (∀ p xs ds, H p = none → DpAll K Hd xs ds → R ds → Q (.ref p) (upd H p (.lst xs))) → r v w H Q
def CL (K : Fg) (r : List V → Hp → VK → Prop) (zs : List D) (R : List D → Prop) : Prop :=
  ∀ H Hd vs Q, Ex Hd H → DpAll K Hd vs zs → (∀ p xs ds, H p = none → DpAll K Hd xs ds → R ds → Q (.ref p) (upd H p (.lst xs))) → r vs H Q

section
variable {K : Fg} {δ : Dl} {M M' : Ms} {R : D → Ms → Prop} {RL : List D → Ms → Prop} {RB : Bool → Ms → Prop} {te ta tb tc : TE} {ts tr : TA} {t u : TT} {r : R2} {rc : List V → Hp → VK → Prop}

theorem we_mono {R' : D → Ms → Prop} (h : WE K te δ M R) (hr : ∀ d M, R d M → R' d M) : WE K te δ M R' := fun σ H Hd ls Q a k => h σ H Hd ls Q a fun v d M' H' Hd' a' s dv q => k v d M' H' Hd' a' s dv (hr _ _ q)
theorem wt_mono {R' : Bool → Ms → Prop} (h : WT K t δ M RB) (hr : ∀ d M, RB d M → R' d M) : WT K t δ M R' := fun σ H Hd ls Q a k => h σ H Hd ls Q a fun v M' H' Hd' a' s q => k v M' H' Hd' a' s (hr _ _ q)
theorem wl_mono {R' : List D → Ms → Prop} (h : WL K te δ M RL) (hr : ∀ d M, RL d M → R' d M) : WL K te δ M R' := fun σ H Hd ls Q a k => h σ H Hd ls Q a fun p xs ds M' H' Hd' a' s h1 h2 h3 h4 h5 q => k p xs ds M' H' Hd' a' s h1 h2 h3 h4 h5 (hr _ _ q)

/-! ### leaves -/
theorem we_var {i : Nat} {d : D} (h : δ[i]? = some (some (.dat d))) (q : R d M) : WE K (tVar i) δ M R := fun σ H Hd ls Q a k => by
  obtain ⟨v, hv, dv⟩ := a.dat i d h
  exact ⟨v, hv, k v d M H Hd a Step.refl dv q⟩
theorem we_int {i : Int} (q : R (.int i) M) : WE K (tC (.int i)) δ M R := fun σ H Hd ls Q a k => k _ _ M H Hd a Step.refl (.int i) q
theorem we_bl {b : Bool} (q : R (.bool b) M) : WE K (tC (.bl b)) δ M R := fun σ H Hd ls Q a k => k _ _ M H Hd a Step.refl (.bl b) q
theorem we_str {x : Str} (q : R (.str x) M) : WE K (tC (.str x)) δ M R := fun σ H Hd ls Q a k => k _ _ M H Hd a Step.refl (.str x) q
theorem we_non (q : R .none M) : WE K (tC .non) δ M R := fun σ H Hd ls Q a k => k _ _ M H Hd a Step.refl .non q
/-- a constant of the module: data of the written part -/
theorem we_con {v : V} {d : D} (h : ∀ H, Dp K H v d) (q : R d M) : WE K (tC v) δ M R := fun σ H Hd ls Q a k => k _ _ M H Hd a Step.refl (h Hd) q

/-! ### operations -/
theorem we_op (h : WE K ta δ M fun x M1 => WE K tb δ M1 fun y M2 => OD K r x y fun d => R d M2) : WE K (tOp r ta tb) δ M R := fun σ H Hd ls Q a k =>
  h σ H Hd ls _ a fun v x M1 H1 Hd1 a1 s1 dv h1 => h1 σ H1 Hd1 ls _ a1 fun w y M2 H2 Hd2 a2 s2 dw h2 => h2 H2 Hd2 v w Q a2.sub (dv.up s2.ext) dw fun z d H3 Hd3 s3 x3 dz q =>
    k z d M2 H3 Hd3 (a2.up s3 x3) ((s1.trans s2).trans s3.all) dz q
theorem wl_op (h : WE K ta δ M fun x M1 => WE K tb δ M1 fun y M2 => OL K r x y fun ds => RL ds M2) : WL K (tOp r ta tb) δ M RL := fun σ H Hd ls Q a k =>
  h σ H Hd ls _ a fun v x M1 H1 Hd1 a1 s1 dv h1 => h1 σ H1 Hd1 ls _ a1 fun w y M2 H2 Hd2 a2 s2 dw h2 => h2 H2 Hd2 v w Q a2.sub (dv.up s2.ext) dw fun p xs ds hp da q => by
    have s12 := s1.trans s2
    refine k p xs ds M2 (upd H2 p (.lst xs)) Hd2 (a2.up (step_new hp) fun b o e => ?_) (s12.trans (step_new hp).all) ?_ ?_ (not_ls a2 hp) upd_same da q
    · have := a2.sub b o e
      rw [upd_ne (ne_of_none this hp)]; exact this
    · cases e : H p with
      | none => rfl
      | some o => exact absurd hp (s12.there p (by rw [e]; simp))
    · cases e : Hd2 p with
      | none => rfl
      | some o => rw [a2.sub p o e] at hp; cases hp
/-- a fresh list, taken as data -/
theorem we_wl (h : WL K te δ M fun ds M1 => R (.list ds) M1) : WE K te δ M R := fun σ H Hd ls Q a k =>
  h σ H Hd ls Q a fun p xs ds M1 H1 Hd1 a1 s1 hp hd nl hx da q => by
    have ex : Ex Hd1 (upd Hd1 p (.lst xs)) := Ex.new hd
    have st : Step H1 Hd1 [] H1 (upd Hd1 p (.lst xs)) → False ∨ True := fun _ => .inr trivial
    refine k (.ref p) (.list ds) M1 H1 (upd Hd1 p (.lst xs)) ⟨fun b o e => ?_, a1.mlen, a1.nd, fun i l m h1 h2 => ?_, a1.dlen, fun i d h1 => ?_, a1.own⟩ ⟨s1.ext.trans ex, s1.old, fun b h1 h2 => ?_, s1.there⟩ (.lst (SqL.of upd_same) (da.up ex)) q
    · by_cases e' : b = p
      · subst e'; rw [upd_same] at e; cases e; exact hx
      · rw [upd_ne e'] at e; exact a1.sub b o e
    · have hl : l ≠ p := fun z => nl (z ▸ List.mem_of_getElem? h1)
      have := a1.obj i l m h1 h2
      cases m with
      | lst es => obtain ⟨n, ys, hy, hs⟩ := this; exact ⟨by rw [upd_ne hl]; exact n, ys, hy, hs.up ex⟩
      | dic es => obtain ⟨n, ys, hy, hk, hs⟩ := this; exact ⟨by rw [upd_ne hl]; exact n, ys, hy, hk, hs.up ex⟩
      | gone =>
        show upd Hd1 p _ l ≠ none
        rw [upd_ne hl]; exact this
    · obtain ⟨v, hv, dv⟩ := a1.dat i d h1
      exact ⟨v, hv, dv.up ex⟩
    · have : b ≠ p := fun z => h1 (z ▸ hp)
      rw [upd_ne this]; exact s1.new b h1 h2
theorem we_un {f : V → Hp → VK → Prop} (h : WE K ta δ M fun x M1 => ∀ v H Hd Q, Dp K Hd v x → (∀ z d, (∀ H', Dp K H' z d) → R d M1 → Q z H) → f v H Q) : WE K (tUn f ta) δ M R := fun σ H Hd ls Q a k =>
  h σ H Hd ls _ a fun v x M1 H1 Hd1 a1 s1 dv h1 => h1 v H1 Hd1 Q dv fun z d dz q => k z d M1 H1 Hd1 a1 s1 (dz Hd1) q
theorem we_neg {i : Int} (q : R (.int (-i)) M) : (fun (x : D) (M1 : Ms) => ∀ v H Hd Q, Dp K Hd v x → (∀ z d, (∀ H', Dp K H' z d) → R d M1 → Q z H) → (rU fun i => .int (-i)) v H Q) (.int i) M := fun v H Hd Q dv k => by
  cases dv
  exact ⟨i, rfl, k _ _ (fun _ => .int _) q⟩

/-! ### arguments, displays -/
theorem wd_nil (q : RL [] M) : WD K tNil δ M RL := fun σ H Hd ls Q a k => k [] [] M H Hd a Step.refl .nil q
theorem wd_cons (h : WE K te δ M fun d M1 => WD K tr δ M1 fun ds M2 => RL (d :: ds) M2) : WD K (tCons te tr) δ M RL := fun σ H Hd ls Q a k =>
  h σ H Hd ls _ a fun v d M1 H1 Hd1 a1 s1 dv h1 => h1 σ H1 Hd1 ls _ a1 fun vs ds M2 H2 Hd2 a2 s2 da q => k (v :: vs) (d :: ds) M2 H2 Hd2 a2 (s1.trans s2) (.cons (dv.up s2.ext) da) q
theorem we_tup (h : WD K ts δ M fun ds M1 => ds.length ≤ sizeLine ∧ R (.tuple ds) M1) : WE K (tTup ts) δ M R := fun σ H Hd ls Q a k =>
  h σ H Hd ls _ a fun vs ds M1 H1 Hd1 a1 s1 da q => ⟨by rw [da.length]; exact q.1, fun p hp => by
    have hd : Hd1 p = none := by
      cases e : Hd1 p with
      | none => rfl
      | some o => rw [a1.sub p o e] at hp; cases hp
    have ex : Ex Hd1 (upd Hd1 p (.tup vs)) := Ex.new hd
    have st : Step H1 Hd1 [] (upd H1 p (.tup vs)) (upd Hd1 p (.tup vs)) := ⟨ex, (step_new hp (Hd := Hd1)).old, fun b h1 h2 => by
      have : b ≠ p := fun z => h1 (z ▸ hp)
      rw [upd_ne this]; exact h2, (step_new hp (Hd := Hd1)).there⟩
    refine k (.ref p) (.tuple ds) M1 _ _ (a1.up st fun b o e => ?_) (s1.trans st.all) (.tup (SqT.of upd_same) (da.up ex)) q.2
    by_cases e' : b = p
    · subst e'; rw [upd_same] at e; cases e; exact upd_same
    · rw [upd_ne e'] at e; rw [upd_ne e']; exact a1.sub b o e⟩
theorem wl_lst (h : WD K ts δ M fun ds M1 => ds.length ≤ sizeLine ∧ RL ds M1) : WL K (tLst ts) δ M RL := fun σ H Hd ls Q a k =>
  h σ H Hd ls _ a fun vs ds M1 H1 Hd1 a1 s1 da q => ⟨by rw [da.length]; exact q.1, fun p hp => by
    refine k p vs ds M1 (upd H1 p (.lst vs)) Hd1 (a1.up (step_new hp) fun b o e => ?_) (s1.trans (step_new hp).all) ?_ ?_ (not_ls a1 hp) upd_same da q.2
    · have := a1.sub b o e
      rw [upd_ne (ne_of_none this hp)]; exact this
    · cases e : H p with
      | none => rfl
      | some o => exact absurd hp (s1.there p (by rw [e]; simp))
    · cases e : Hd1 p with
      | none => rfl
      | some o => rw [a1.sub p o e] at hp; cases hp⟩
theorem we_lst (h : WD K ts δ M fun ds M1 => ds.length ≤ sizeLine ∧ R (.list ds) M1) : WE K (tLst ts) δ M R := we_wl (wl_lst h)
theorem we_cb (h : WD K ts δ M fun ds M1 => CD K rc ds fun d => R d M1) : WE K (tCB rc ts) δ M R := fun σ H Hd ls Q a k =>
  h σ H Hd ls _ a fun vs ds M1 H1 Hd1 a1 s1 da q => q H1 Hd1 vs Q a1.sub da fun z d H2 Hd2 s2 x2 dz q2 => k z d M1 H2 Hd2 (a1.up s2 x2) (s1.trans s2.all) dz q2
theorem wl_cb (h : WD K ts δ M fun ds M1 => CL K rc ds fun es => RL es M1) : WL K (tCB rc ts) δ M RL := fun σ H Hd ls Q a k =>
  h σ H Hd ls _ a fun vs ds M1 H1 Hd1 a1 s1 da q => q H1 Hd1 vs Q a1.sub da fun p xs es hp de q2 => by
    refine k p xs es M1 (upd H1 p (.lst xs)) Hd1 (a1.up (step_new hp) fun b o e => ?_) (s1.trans (step_new hp).all) ?_ ?_ (not_ls a1 hp) upd_same de q2
    · have := a1.sub b o e
      rw [upd_ne (ne_of_none this hp)]; exact this
    · cases e : H p with
      | none => rfl
      | some o => exact absurd hp (s1.there p (by rw [e]; simp))
    · cases e : Hd1 p with
      | none => rfl
      | some o => rw [a1.sub p o e] at hp; cases hp

/-! ### tests -/
theorem wt_B (h : WE K te δ M fun d M1 => ∃ b, d = .bool b ∧ RB b M1) : WT K (tB te) δ M RB := fun σ H Hd ls Q a k =>
  h σ H Hd ls _ a fun v d M1 H1 Hd1 a1 s1 dv h1 => by
    obtain ⟨b, rfl, q⟩ := h1
    cases dv
    exact ⟨b, rfl, k b M1 H1 Hd1 a1 s1 q⟩
theorem wt_test (h : WE K te δ M fun d M1 => ∃ b, d = .bool b ∧ RB b M1) : WT K (tTest te) δ M RB := wt_B h
theorem wt_and (h : WT K t δ M fun b M1 => if b = true then WT K u δ M1 RB else RB false M1) : WT K (tAnd t u) δ M RB := fun σ H Hd ls Q a k =>
  h σ H Hd ls _ a fun b M1 H1 Hd1 a1 s1 h1 => by
    cases b with
    | true => exact h1 σ H1 Hd1 ls Q a1 fun c M2 H2 Hd2 a2 s2 q => k c M2 H2 Hd2 a2 (s1.trans s2) q
    | false => exact k false M1 H1 Hd1 a1 s1 h1
theorem wt_or (h : WT K t δ M fun b M1 => if b = true then RB true M1 else WT K u δ M1 RB) : WT K (tOr t u) δ M RB := fun σ H Hd ls Q a k =>
  h σ H Hd ls _ a fun b M1 H1 Hd1 a1 s1 h1 => by
    cases b with
    | false => exact h1 σ H1 Hd1 ls Q a1 fun c M2 H2 Hd2 a2 s2 q => k c M2 H2 Hd2 a2 (s1.trans s2) q
    | true => exact k true M1 H1 Hd1 a1 s1 h1
theorem wt_not (h : WT K t δ M fun b M1 => RB (!b) M1) : WT K (tNot t) δ M RB := fun σ H Hd ls Q a k =>
  h σ H Hd ls _ a fun b M1 H1 Hd1 a1 s1 q => k (!b) M1 H1 Hd1 a1 s1 q
theorem we_if (h : WT K t δ M fun b M1 => if b = true then WE K ta δ M1 R else WE K tb δ M1 R) : WE K (tIf t ta tb) δ M R := fun σ H Hd ls Q a k =>
  h σ H Hd ls _ a fun b M1 H1 Hd1 a1 s1 h1 => by
    cases b with
    | true => exact h1 σ H1 Hd1 ls Q a1 fun v d M2 H2 Hd2 a2 s2 dv q => k v d M2 H2 Hd2 a2 (s1.trans s2) dv q
    | false => exact h1 σ H1 Hd1 ls Q a1 fun v d M2 H2 Hd2 a2 s2 dv q => k v d M2 H2 Hd2 a2 (s1.trans s2) dv q
theorem we_andV (h : WE K ta δ M fun x M1 => ∃ c, x = .bool c ∧ if c = true then WE K tb δ M1 R else R (.bool false) M1) : WE K (tAndV ta tb) δ M R := fun σ H Hd ls Q a k =>
  h σ H Hd ls _ a fun v x M1 H1 Hd1 a1 s1 dv h1 => by
    obtain ⟨c, rfl, h1⟩ := h1
    cases dv
    refine ⟨c, rfl, ?_⟩
    cases c with
    | true => exact h1 σ H1 Hd1 ls Q a1 fun v d M2 H2 Hd2 a2 s2 dv q => k v d M2 H2 Hd2 a2 (s1.trans s2) dv q
    | false => exact k _ _ M1 H1 Hd1 a1 s1 (.bl false) h1
theorem we_orV (h : WE K ta δ M fun x M1 => ∃ c, x = .bool c ∧ if c = true then R (.bool true) M1 else WE K tb δ M1 R) : WE K (tOrV ta tb) δ M R := fun σ H Hd ls Q a k =>
  h σ H Hd ls _ a fun v x M1 H1 Hd1 a1 s1 dv h1 => by
    obtain ⟨c, rfl, h1⟩ := h1
    cases dv
    refine ⟨c, rfl, ?_⟩
    cases c with
    | false => exact h1 σ H1 Hd1 ls Q a1 fun v d M2 H2 Hd2 a2 s2 dv q => k v d M2 H2 Hd2 a2 (s1.trans s2) dv q
    | true => exact k _ _ M1 H1 Hd1 a1 s1 (.bl true) h1
theorem we_notV (h : WE K ta δ M fun x M1 => ∃ c, x = .bool c ∧ R (.bool (!c)) M1) : WE K (tNotV ta) δ M R := fun σ H Hd ls Q a k =>
  h σ H Hd ls _ a fun v x M1 H1 Hd1 a1 s1 dv h1 => by
    obtain ⟨c, rfl, q⟩ := h1
    cases dv
    exact ⟨c, rfl, k _ _ M1 H1 Hd1 a1 s1 (.bl _) q⟩
/-- a value's truth -/
def truD : D → Bool
  | .none => false
  | .bool b => b
  | .int i => i != 0
  | .str x => (x.length : Int) != 0
  | .list xs => !xs.isEmpty
  | .tuple xs => !xs.isEmpty
  | .dict xs => !xs.isEmpty
theorem DpAll.empty {H : Hp} {vs : List V} {ds : List D} (h : DpAll K H vs ds) : vs.isEmpty = ds.isEmpty := by
  cases vs with
  | nil => cases h; rfl
  | cons v vs => cases h; rfl
theorem wt_tru (h : WE K te δ M fun d M1 => (∀ x, d = .str x → x.length ≤ sizeLine) ∧ (∀ ks, d ≠ .dict ks) ∧ RB (truD d) M1) : WT K (fun σ H Q => te σ H fun x H' => ∃ k, TruV K x H' k ∧ Q k H') δ M RB := fun σ H Hd ls Q a k =>
  h σ H Hd ls _ a fun v d M1 H1 Hd1 a1 s1 dv h1 => by
    obtain ⟨hs, nd, q⟩ := h1
    refine ⟨truD d, ?_, k _ M1 H1 Hd1 a1 s1 q⟩
    cases dv with
    | non => rfl
    | bl b => rfl
    | int i => rfl
    | str x => exact ⟨hs x rfl, rfl⟩
    | lst hq ha => exact .inl ⟨_, ex_l a1.sub hq, by rw [DpAll.empty ha]; rfl⟩
    | tup hq ha => exact .inr (.inl ⟨_, ex_t a1.sub hq, by rw [DpAll.empty ha]; rfl⟩)
    | dic h0 _ _ => exact absurd rfl (nd _)
end
end PW

set_option Elab.async false
set_option linter.all false
set_option maxRecDepth 100000
set_option maxHeartbeats 2000000
namespace PW
open PySem L2 Evl

/-! ### slots -/
section
variable {K : Fg} {δ : Dl} {M M' : Ms} {σ : L2.St} {H Hd H' Hd' : Hp} {ls : List Addr} {e : Ent}
theorem Sta.put (a : Sta K δ M σ H Hd ls) {i : Nat} {v : V} {d : D} (dv : Dp K Hd v d) : Sta K (δ.set i (some (.dat d))) M (σ.set i (some v)) H Hd ls := by
  refine ⟨a.sub, a.mlen, a.nd, a.obj, by simp [a.dlen], fun j x h => ?_, fun j k h => ?_⟩
  · by_cases e : i = j
    · subst e
      rw [List.getElem?_set] at h ⊢
      simp only [if_true] at h ⊢
      split at h
      · rename_i hl
        cases h
        rw [if_pos (by rw [a.dlen]; exact hl)]
        exact ⟨v, rfl, dv⟩
      · cases h
    · rw [List.getElem?_set_ne e] at h ⊢
      exact a.dat j x h
  · by_cases e : i = j
    · subst e
      rw [List.getElem?_set] at h
      simp only [if_true] at h
      split at h
      · cases h
      · cases h
    · rw [List.getElem?_set_ne e] at h ⊢
      exact a.own j k h
theorem Sta.forget (a : Sta K δ M σ H Hd ls) (σ' : L2.St) (δ' : Dl) (hl : σ'.length = δ'.length) (h : ∀ (i : Nat) c, δ'[i]? = some (some c) → δ[i]? = some (some c) ∧ σ'[i]? = σ[i]?) : Sta K δ' M σ' H Hd ls :=
  ⟨a.sub, a.mlen, a.nd, a.obj, hl, fun i d hd => by
    obtain ⟨h1, h2⟩ := h i _ hd
    obtain ⟨v, hv, dv⟩ := a.dat i d h1
    exact ⟨v, h2.trans hv, dv⟩, fun i k hd => by
    obtain ⟨h1, h2⟩ := h i _ hd
    obtain ⟨l, hl, hv⟩ := a.own i k h1
    exact ⟨l, hl, h2.trans hv⟩⟩
/-- an owned object is changed -/
theorem Sta.write (a : Sta K δ M σ H Hd ls) {k : Nat} {l : Addr} {o : HO} {m : MO} (hl : ls[k]? = some l) (n : Hd l = none) (hm : MAt K Hd (upd H l o) l m) : Sta K δ (M.set k m) σ (upd H l o) Hd ls := by
  refine ⟨fun b u hb => ?_, by simp [a.mlen], a.nd, fun j x y h1 h2 => ?_, a.dlen, a.dat, a.own⟩
  · rw [upd_ne (ne_of_none hb n)]; exact a.sub b u hb
  · by_cases e : k = j
    · subst e
      rw [hl] at h1; cases h1
      have hk : k < M.length := by rw [← a.mlen]; exact (List.getElem?_eq_some_iff.mp hl).1
      rw [List.getElem?_set_self hk] at h2
      cases h2
      exact hm
    · rw [List.getElem?_set_ne e] at h2
      have hx : x ≠ l := by
        rintro rfl
        obtain ⟨p1, q1⟩ := List.getElem?_eq_some_iff.mp hl
        obtain ⟨p2, q2⟩ := List.getElem?_eq_some_iff.mp h1
        exact e ((List.getElem_inj a.nd).mp (q1.trans q2.symm))
      have := a.obj j x y h1 h2
      cases y with
      | lst ds => obtain ⟨z, xs, hx', ha⟩ := this; exact ⟨z, xs, by rw [upd_ne hx]; exact hx', ha⟩
      | dic ds => obtain ⟨z, xs, hx', hk, ha⟩ := this; exact ⟨z, xs, by rw [upd_ne hx]; exact hx', hk, ha⟩
      | gone => exact this
theorem step_write {l : Addr} {o : HO} {k : Nat} (hl : ls[k]? = some l) (hn : H l ≠ none) : Step H Hd ls (upd H l o) Hd :=
  ⟨Ex.refl _, fun a u h n => by
    have : a ≠ l := fun z => n (z ▸ List.mem_of_getElem? hl)
    rw [upd_ne this]; exact h, fun _ _ n => n, fun a h => by
    by_cases q : a = l
    · subst q; rw [upd_same]; simp
    · rw [upd_ne q]; exact h⟩
/-- a fresh list becomes an owned one -/
theorem Sta.adopt (a : Sta K δ M σ H Hd ls) {p : Addr} {xs : List V} {ds : List D} {i : Nat} (hp : H p = some (.lst xs)) (n : Hd p = none) (nl : p ∉ ls) (da : DpAll K Hd xs ds) :
    Sta K (δ.set i (some (.own M.length))) (M ++ [.lst ds]) (σ.set i (some (.ref p))) H Hd (ls ++ [p]) := by
  refine ⟨a.sub, by simp [a.mlen], by rw [List.nodup_append]; exact ⟨a.nd, by simp, fun x hx y hy => by simp at hy; rw [hy]; exact fun z => nl (z ▸ hx)⟩, fun k l m h1 h2 => ?_, by simp [a.dlen], fun j x h => ?_, fun j k h => ?_⟩
  · by_cases hk : k < ls.length
    · rw [List.getElem?_append_left hk] at h1
      rw [List.getElem?_append_left (by rw [← a.mlen]; exact hk)] at h2
      exact a.obj k l m h1 h2
    · have hk' : k = ls.length := by
        have := (List.getElem?_eq_some_iff.mp h1).1
        simp at this; omega
      subst hk'
      have e1 : (ls ++ [p])[ls.length]? = some p := by simp
      have e2 : (M ++ [MO.lst ds])[ls.length]? = some (.lst ds) := by rw [a.mlen]; simp
      rw [e1] at h1; rw [e2] at h2
      cases h1; cases h2
      exact ⟨n, xs, hp, da⟩
  · by_cases e : i = j
    · subst e
      rw [List.getElem?_set] at h
      simp only [if_true] at h
      split at h
      · cases h
      · cases h
    · rw [List.getElem?_set_ne e] at h ⊢
      exact a.dat j x h
  · by_cases e : i = j
    · subst e
      rw [List.getElem?_set] at h ⊢
      simp only [if_true] at h ⊢
      split at h
      · rename_i hl
        cases h
        rw [if_pos (by rw [a.dlen]; exact hl)]
        exact ⟨p, by rw [← a.mlen]; simp, rfl⟩
      · cases h
    · rw [List.getElem?_set_ne e] at h ⊢
      obtain ⟨l, h1, h2⟩ := a.own j k h
      exact ⟨l, by rw [List.getElem?_append_left (List.getElem?_eq_some_iff.mp h1).1]; exact h1, h2⟩
end

/-! ### targets -/
def WG (K : Fg) (g : TG) (d : D) (δ : Dl) (M : Ms) (R : Dl → Ms → Prop) : Prop :=
  ∀ σ H Hd ls v Q, Sta K δ M σ H Hd ls → Dp K Hd v d → (∀ δ' M' σ' H' Hd', Sta K δ' M' σ' H' Hd' ls → Step H Hd ls H' Hd' → R δ' M' → Q σ' H') → g v σ H Q
def WGs (K : Fg) (g : TGs) (ds : List D) (δ : Dl) (M : Ms) (R : Dl → Ms → Prop) : Prop :=
  ∀ σ H Hd ls vs Q, Sta K δ M σ H Hd ls → DpAll K Hd vs ds → (∀ δ' M' σ' H' Hd', Sta K δ' M' σ' H' Hd' ls → Step H Hd ls H' Hd' → R δ' M' → Q σ' H') → g vs σ H Q
section
variable {K : Fg} {δ : Dl} {M M' : Ms} {R : Dl → Ms → Prop} {te ti ta : TE} {g : TG} {gs : TGs} {d : D} {ds : List D}
theorem wg_name {i : Nat} (q : R (δ.set i (some (.dat d))) M) : WG K (gName i) d δ M R := fun σ H Hd ls v Q a dv k => k _ M _ H Hd (a.put dv) Step.refl q
theorem wgs_nil (q : R δ M) : WGs K gNil [] δ M R := fun σ H Hd ls vs Q a dv k => by
  cases dv
  exact ⟨rfl, k δ M σ H Hd a Step.refl q⟩
theorem wgs_cons (h : WG K g d δ M fun δ1 M1 => WGs K gs ds δ1 M1 R) : WGs K (gCons g gs) (d :: ds) δ M R := fun σ H Hd ls vs Q a dv k => by
  cases dv with
  | cons d1 d2 => exact ⟨_, _, rfl, h σ H Hd ls _ _ a d1 fun δ1 M1 σ1 H1 Hd1 a1 s1 h1 => h1 σ1 H1 Hd1 ls _ Q a1 (d2.up s1.ext) fun δ2 M2 σ2 H2 Hd2 a2 s2 q => k δ2 M2 σ2 H2 Hd2 a2 (s1.trans s2) q⟩
theorem wg_tup {n : Nat} (hn : ds.length = n) (h : WGs K gs ds δ M R) : WG K (gTup K n gs) (.tuple ds) δ M R := fun σ H Hd ls v Q a dv k => by
  cases dv with
  | tup hs ha => exact ⟨_, _, rfl, ex_t a.sub hs, by rw [ha.length]; exact hn, h σ H Hd ls _ Q a ha k⟩
/-- own[i] = d -/
theorem wg_sub {i k : Nat} (ho : δ[i]? = some (some (.own k))) (h : WE K ti δ M fun j M1 => ∃ z n es, j = .int z ∧ M1[k]? = some (.lst es) ∧ ixN es.length z = some n ∧ R δ (M1.set k (.lst (es.set n d)))) : WG K (gSub (tVar i) ti rSetL) d δ M R := fun σ H Hd ls v Q a dv kk => by
  obtain ⟨l, hl, hv⟩ := a.own i k ho
  refine ⟨_, hv, h σ H Hd ls _ a fun w j M1 H1 Hd1 a1 s1 dw h1 => ?_⟩
  obtain ⟨z, n, es, rfl, hm, hx, q⟩ := h1
  cases dw
  obtain ⟨n0, xs, hxs, da⟩ := a1.obj k l _ hl hm
  refine ⟨l, xs, z, n, rfl, rfl, hxs, by rw [da.length]; exact hx, ?_⟩
  refine kk δ (M1.set k (.lst (es.set n d))) σ (upd H1 l (.lst (xs.set n v))) Hd1 (a1.write hl n0 ⟨n0, _, upd_same, da.set n (dv.up s1.ext)⟩) (s1.trans (step_write hl (by rw [hxs]; simp))) q
end

/-! ### statements -/
section
variable {K : Fg} {n : Nat} {δ : Dl} {M M' : Ms} {P : Po} {te ti ta : TE} {g : TG} {t u w : TS} {tc : TT} {wi : TI}
/-- statements of a body that has n owned parameters -/
def WB (K : Fg) (n : Nat) (t : TS) (δ : Dl) (M : Ms) (P : Po) : Prop :=
  ∀ (e : Ent) (σ : L2.St) (H Hd : Hp) (ls : List Addr) (W : Ends), e.ls.length = n → Run K e δ M σ H Hd ls →
    (∀ δ' M' σ' H' Hd' ls', Run K e δ' M' σ' H' Hd' ls' → Ex Hd Hd' → ls <+: ls' → P.nx δ' M' → W.nx σ' H') →
    (∀ v d δ' M' σ' H' Hd' ls', Run K e δ' M' σ' H' Hd' ls' → Ex Hd Hd' → ls <+: ls' → Dp K Hd' v d → P.rt d M' → W.rt v H') →
    (∀ δ' M' σ' H' Hd' ls', Run K e δ' M' σ' H' Hd' ls' → Ex Hd Hd' → ls <+: ls' → P.bk δ' M' → W.bk σ' H') →
    (∀ δ' M' σ' H' Hd' ls', Run K e δ' M' σ' H' Hd' ls' → Ex Hd Hd' → ls <+: ls' → P.ct δ' M' → W.ct σ' H') → t W σ H
theorem wb_next (q : P.nx δ M) : WB K n tNext δ M P := fun e σ H Hd ls W hn r k1 k2 k3 k4 => k1 δ M σ H Hd ls r (Ex.refl _) (List.prefix_refl _) q
theorem wb_break (q : P.bk δ M) : WB K n tBreak δ M P := fun e σ H Hd ls W hn r k1 k2 k3 k4 => k3 δ M σ H Hd ls r (Ex.refl _) (List.prefix_refl _) q
theorem wb_cont (q : P.ct δ M) : WB K n tCont δ M P := fun e σ H Hd ls W hn r k1 k2 k3 k4 => k4 δ M σ H Hd ls r (Ex.refl _) (List.prefix_refl _) q
theorem wb_seq (h : WB K n t δ M { P with nx := fun δ' M' => WB K n u δ' M' P }) : WB K n (tSeq t u) δ M P := fun e σ H Hd ls W hn r k1 k2 k3 k4 =>
  h e σ H Hd ls { W with nx := u W } hn r (fun δ' M' σ' H' Hd' ls' r' x' p' h' => h' e σ' H' Hd' ls' W hn r'
    (fun δ2 M2 σ2 H2 Hd2 ls2 r2 x2 p2 q2 => k1 δ2 M2 σ2 H2 Hd2 ls2 r2 (x'.trans x2) (p'.trans p2) q2)
    (fun v d δ2 M2 σ2 H2 Hd2 ls2 r2 x2 p2 q2 => k2 v d δ2 M2 σ2 H2 Hd2 ls2 r2 (x'.trans x2) (p'.trans p2) q2)
    (fun δ2 M2 σ2 H2 Hd2 ls2 r2 x2 p2 q2 => k3 δ2 M2 σ2 H2 Hd2 ls2 r2 (x'.trans x2) (p'.trans p2) q2)
    (fun δ2 M2 σ2 H2 Hd2 ls2 r2 x2 p2 q2 => k4 δ2 M2 σ2 H2 Hd2 ls2 r2 (x'.trans x2) (p'.trans p2) q2)) k2 k3 k4
theorem wb_asg (h : WE K te δ M fun d M1 => WG K g d δ M1 P.nx) : WB K n (tAsg te g) δ M P := fun e σ H Hd ls W hn r k1 k2 k3 k4 =>
  h σ H Hd ls _ r.sta fun v d M1 H1 Hd1 a1 s1 dv h1 => h1 σ H1 Hd1 ls v _ a1 dv fun δ2 M2 σ2 H2 Hd2 a2 s2 q => by
    have s12 := s1.trans s2
    have r2 : Run K e δ M2 σ H2 Hd2 ls → Run K e δ2 M2 σ2 H2 Hd2 ls := fun r => ⟨a2, r.step, r.pre, r.loc⟩
    refine k1 δ2 M2 σ2 H2 Hd2 ls ?_ s12.ext (List.prefix_refl _) q
    have r1 := r.go a1 s1
    have a2' : Sta K δ M2 σ H2 Hd2 ls → Run K e δ2 M2 σ2 H2 Hd2 ls := fun z => r2 (r.go z s12)
    -- the run's step does not hang on the slots
    have z : Step e.H e.Hd e.ls H2 Hd2 := by
      refine ⟨r1.step.ext.trans s2.ext, fun x o h n => ?_, fun x h n => s2.new x (r1.step.there x h) (r1.step.new x h n), fun x h => s2.there x (r1.step.there x h)⟩
      refine s2.old x o (r1.step.old x o h n) fun hm => ?_
      obtain ⟨k, hk, ek⟩ := List.getElem_of_mem hm
      by_cases hlt : k < e.ls.length
      · obtain ⟨tl, et⟩ := r.pre
        refine n ?_
        have : ls[k]? = e.ls[k]? := by rw [← et, List.getElem?_append_left hlt]
        rw [List.getElem?_eq_getElem hk, ek, List.getElem?_eq_getElem hlt] at this
        rw [Option.some.inj this]
        exact List.getElem_mem hlt
      · have := r.loc k x (by rw [List.getElem?_eq_getElem hk, ek]) (by omega)
        rw [h] at this; cases this
    exact ⟨a2, z, r.pre, r.loc⟩
theorem wb_asgO {i : Nat} (h : WL K te δ M fun ds M1 => P.nx (δ.set i (some (.own M1.length))) (M1 ++ [.lst ds])) : WB K n (tAsg te (gName i)) δ M P := fun e σ H Hd ls W hn r k1 k2 k3 k4 =>
  h σ H Hd ls _ r.sta fun p xs ds M1 H1 Hd1 a1 s1 h0 h2 h3 h4 h5 q => by
    have r1 := r.go a1 s1
    refine k1 _ _ _ H1 Hd1 (ls ++ [p]) ⟨a1.adopt h4 h2 h3 h5, r1.step, r.pre.trans (List.prefix_append _ _), fun k l hk hl => ?_⟩ s1.ext (List.prefix_append _ _) q
    by_cases hlt : k < ls.length
    · rw [List.getElem?_append_left hlt] at hk; exact r.loc k l hk hl
    · have hk' : k = ls.length := by
        have := (List.getElem?_eq_some_iff.mp hk).1
        simp at this; omega
      subst hk'
      simp at hk
      subst hk
      cases e0 : e.H p with
      | none => rfl
      | some o => exact absurd h0 (r.step.there p (by rw [e0]; simp))
theorem wb_ret (h : WE K te δ M P.rt) : WB K n (tRet te) δ M P := fun e σ H Hd ls W hn r k1 k2 k3 k4 =>
  h σ H Hd ls _ r.sta fun v d M1 H1 Hd1 a1 s1 dv q => k2 v d δ M1 σ H1 Hd1 ls (r.go a1 s1) s1.ext (List.prefix_refl _) dv q
theorem wb_retN (q : P.rt .none M) : WB K n tRetN δ M P := fun e σ H Hd ls W hn r k1 k2 k3 k4 => k2 _ _ δ M σ H Hd ls r (Ex.refl _) (List.prefix_refl _) .non q
theorem wb_drop (h : WE K te δ M fun _ M1 => P.nx δ M1) : WB K n (tDrop te) δ M P := fun e σ H Hd ls W hn r k1 k2 k3 k4 =>
  h σ H Hd ls _ r.sta fun v d M1 H1 Hd1 a1 s1 dv q => k1 δ M1 σ H1 Hd1 ls (r.go a1 s1) s1.ext (List.prefix_refl _) q
theorem wb_if (h : WT K tc δ M fun b M1 => if b = true then WB K n t δ M1 P else WB K n u δ M1 P) : WB K n (tIfS tc t u) δ M P := fun e σ H Hd ls W hn r k1 k2 k3 k4 =>
  h σ H Hd ls _ r.sta fun b M1 H1 Hd1 a1 s1 h1 => by
    cases b with
    | true => exact h1 e σ H1 Hd1 ls W hn (r.go a1 s1) (fun δ2 M2 σ2 H2 Hd2 ls2 r2 x2 => k1 δ2 M2 σ2 H2 Hd2 ls2 r2 (s1.ext.trans x2)) (fun v d δ2 M2 σ2 H2 Hd2 ls2 r2 x2 => k2 v d δ2 M2 σ2 H2 Hd2 ls2 r2 (s1.ext.trans x2)) (fun δ2 M2 σ2 H2 Hd2 ls2 r2 x2 => k3 δ2 M2 σ2 H2 Hd2 ls2 r2 (s1.ext.trans x2)) (fun δ2 M2 σ2 H2 Hd2 ls2 r2 x2 => k4 δ2 M2 σ2 H2 Hd2 ls2 r2 (s1.ext.trans x2))
    | false => exact h1 e σ H1 Hd1 ls W hn (r.go a1 s1) (fun δ2 M2 σ2 H2 Hd2 ls2 r2 x2 => k1 δ2 M2 σ2 H2 Hd2 ls2 r2 (s1.ext.trans x2)) (fun v d δ2 M2 σ2 H2 Hd2 ls2 r2 x2 => k2 v d δ2 M2 σ2 H2 Hd2 ls2 r2 (s1.ext.trans x2)) (fun δ2 M2 σ2 H2 Hd2 ls2 r2 x2 => k3 δ2 M2 σ2 H2 Hd2 ls2 r2 (s1.ext.trans x2)) (fun δ2 M2 σ2 H2 Hd2 ls2 r2 x2 => k4 δ2 M2 σ2 H2 Hd2 ls2 r2 (s1.ext.trans x2))
/-- weaker ends -/
theorem wb_mono {P' : Po} (h : WB K n t δ M P) (h1 : ∀ δ M, P.nx δ M → P'.nx δ M) (h2 : ∀ d M, P.rt d M → P'.rt d M) (h3 : ∀ δ M, P.bk δ M → P'.bk δ M) (h4 : ∀ δ M, P.ct δ M → P'.ct δ M) : WB K n t δ M P' := fun e σ H Hd ls W hn r k1 k2 k3 k4 =>
  h e σ H Hd ls W hn r (fun δ2 M2 σ2 H2 Hd2 ls2 r2 x2 p2 q => k1 δ2 M2 σ2 H2 Hd2 ls2 r2 x2 p2 (h1 _ _ q)) (fun v d δ2 M2 σ2 H2 Hd2 ls2 r2 x2 p2 dv q => k2 v d δ2 M2 σ2 H2 Hd2 ls2 r2 x2 p2 dv (h2 _ _ q))
    (fun δ2 M2 σ2 H2 Hd2 ls2 r2 x2 p2 q => k3 δ2 M2 σ2 H2 Hd2 ls2 r2 x2 p2 (h3 _ _ q)) (fun δ2 M2 σ2 H2 Hd2 ls2 r2 x2 p2 q => k4 δ2 M2 σ2 H2 Hd2 ls2 r2 x2 p2 (h4 _ _ q))
/-- found.append(e) -/
theorem wb_app {i k : Nat} {ds0 : List D} (ho : δ[i]? = some (some (.own k))) (hm0 : M[k]? = some (.lst ds0)) (h : WE K te δ M fun d M1 => ∃ ds, M1[k]? = some (.lst ds) ∧ ds.length < sizeLine ∧ P.nx δ (M1.set k (.lst (ds ++ [d])))) : WB K n (tDrop (tBM K "list" rAppend (tVar i) (tCons te tNil))) δ M P := fun e σ H Hd ls W hn r k1 k2 k3 k4 => by
  obtain ⟨l, hl, hv⟩ := r.sta.own i k ho
  refine ⟨_, hv, ?_, ?_⟩
  · obtain ⟨_, xs, hx, _⟩ := r.sta.obj k l _ hl hm0
    exact .inl ⟨rfl, xs, SqL.of hx⟩
  · refine h σ H Hd ls _ r.sta fun v d M1 H1 Hd1 a1 s1 dv h1 => ?_
    obtain ⟨ds, hm, hz, q⟩ := h1
    obtain ⟨n0, xs, hxs, da⟩ := a1.obj k l _ hl hm
    refine ⟨l, xs, v, rfl, rfl, hxs, by rw [da.length]; exact hz, ?_⟩
    have a2 := a1.write (o := .lst (xs ++ [v])) hl n0 (m := .lst (ds ++ [d])) ⟨n0, _, upd_same, da.app (.one dv)⟩
    have s2 := s1.trans (step_write (o := .lst (xs ++ [v])) (Hd := Hd1) hl (show H1 l ≠ none by rw [hxs]; simp))
    exact k1 δ _ σ _ Hd1 ls (r.go a2 s2) s2.ext (List.prefix_refl _) q
/-- an owned list that nothing changes any more is data -/
theorem wb_frz {i k : Nat} {ds : List D} (ho : δ[i]? = some (some (.own k))) (hm : M[k]? = some (.lst ds)) (hk : n ≤ k) (h : WB K n t (δ.set i (some (.dat (.list ds)))) (M.set k .gone) P) : WB K n t δ M P := fun e σ H Hd ls W hn r k1 k2 k3 k4 => by
  obtain ⟨l, hl, hv⟩ := r.sta.own i k ho
  obtain ⟨n0, xs, hxs, da⟩ := r.sta.obj k l _ hl hm
  have ex : Ex Hd (upd Hd l (.lst xs)) := Ex.new n0
  have eloc := r.loc k l hl (by omega)
  have ist : ∀ (j : Nat) x y, ls[j]? = some x → M[j]? = some y → j ≠ k → x ≠ l := fun j x y h1 h2 hj => by
    rintro rfl
    obtain ⟨p1, q1⟩ := List.getElem?_eq_some_iff.mp hl
    obtain ⟨p2, q2⟩ := List.getElem?_eq_some_iff.mp h1
    exact hj ((List.getElem_inj r.sta.nd).mp (q2.trans q1.symm))
  have a2 : Sta K (δ.set i (some (.dat (.list ds)))) (M.set k .gone) σ H (upd Hd l (.lst xs)) ls := by
    refine ⟨fun b o e => ?_, by simp [r.sta.mlen], r.sta.nd, fun j x y h1 h2 => ?_, by simp [r.sta.dlen], fun j d h => ?_, fun j m h => ?_⟩
    · by_cases e' : b = l
      · subst e'; rw [upd_same] at e; cases e; exact hxs
      · rw [upd_ne e'] at e; exact r.sta.sub b o e
    · by_cases hj : k = j
      · subst hj
        rw [hl] at h1; cases h1
        rw [List.getElem?_set_self (List.getElem?_eq_some_iff.mp hm).1] at h2
        cases h2
        show upd Hd l _ l ≠ none
        rw [upd_same]; simp
      · rw [List.getElem?_set_ne hj] at h2
        have hx := ist j x y h1 h2 (Ne.symm hj)
        have := r.sta.obj j x y h1 h2
        cases y with
        | lst es => obtain ⟨z, ys, hy, hs⟩ := this; exact ⟨by rw [upd_ne hx]; exact z, ys, hy, hs.up ex⟩
        | dic es => obtain ⟨z, ys, hy, hk, hs⟩ := this; exact ⟨by rw [upd_ne hx]; exact z, ys, hy, hk, hs.up ex⟩
        | gone =>
          show upd Hd l _ x ≠ none
          rw [upd_ne hx]; exact this
    · by_cases e' : i = j
      · subst e'
        rw [List.getElem?_set] at h
        simp only [if_true] at h
        split at h
        · cases h
          exact ⟨_, hv, .lst (SqL.of upd_same) (da.up ex)⟩
        · cases h
      · rw [List.getElem?_set_ne e'] at h
        obtain ⟨v, h1, h2⟩ := r.sta.dat j d h
        exact ⟨v, h1, h2.up ex⟩
    · by_cases e' : i = j
      · subst e'
        rw [List.getElem?_set] at h
        simp only [if_true] at h
        split at h <;> cases h
      · rw [List.getElem?_set_ne e'] at h
        exact r.sta.own j m h
  refine h e σ H (upd Hd l (.lst xs)) ls W hn ⟨a2, ⟨r.step.ext.trans ex, r.step.old, fun b h1 h2 => ?_, r.step.there⟩, r.pre, r.loc⟩ (fun δ2 M2 σ2 H2 Hd2 ls2 r2 x2 => k1 δ2 M2 σ2 H2 Hd2 ls2 r2 (ex.trans x2)) (fun v d δ2 M2 σ2 H2 Hd2 ls2 r2 x2 => k2 v d δ2 M2 σ2 H2 Hd2 ls2 r2 (ex.trans x2)) (fun δ2 M2 σ2 H2 Hd2 ls2 r2 x2 => k3 δ2 M2 σ2 H2 Hd2 ls2 r2 (ex.trans x2)) (fun δ2 M2 σ2 H2 Hd2 ls2 r2 x2 => k4 δ2 M2 σ2 H2 Hd2 ls2 r2 (ex.trans x2))
  have : b ≠ l := fun z => h1 (z ▸ eloc)
  rw [upd_ne this]; exact r.step.new b h1 h2
end
end PW

set_option Elab.async false
set_option linter.all false
set_option maxRecDepth 100000
set_option maxHeartbeats 2000000
namespace PW
open PySem L2 Evl PySem.Spec PyProof.Rows

/-! ### defs -/
/-- what a def does, by its arguments and what of them it owns: R is wanted of the answer and of the owned objects behind it -/
abbrev FS := List C → Ms → (D → Ms → Prop) → Prop
structure Arg (K : Fg) (H Hd : Hp) (ls : List Addr) (vs : List V) (cs : List C) (M : Ms) : Prop where
  sub : Ex Hd H
  mlen : ls.length = M.length
  nd : ls.Nodup
  obj : ∀ (k : Nat) l m, ls[k]? = some l → M[k]? = some m → MAt K Hd H l m
  vcs : VCs K Hd ls vs cs
def SpF (K : Fg) (S : FS) : Sp := fun vs H Q _ => ∃ Hd ls cs M R, Arg K H Hd ls vs cs M ∧ S cs M R ∧
  ∀ v d M' H' Hd', Ex Hd' H' → Step H Hd ls H' Hd' → M'.length = M.length → (∀ (k : Nat) l m, ls[k]? = some l → M'[k]? = some m → MAt K Hd' H' l m) → Dp K Hd' v d → R d M' → Q v H'
theorem VCs.length {K : Fg} {Hd : Hp} {ls : List Addr} {vs : List V} {cs : List C} (h : VCs K Hd ls vs cs) : vs.length = cs.length := by
  induction h with
  | nil => rfl
  | cons a b ih => simp [ih]
theorem VCs.get {K : Fg} {Hd : Hp} {ls : List Addr} {vs : List V} {cs : List C} (h : VCs K Hd ls vs cs) {i : Nat} {c : C} (hc : cs[i]? = some c) : ∃ v, vs[i]? = some v ∧ VC K Hd ls v c := by
  induction h generalizing i with
  | nil => simp at hc
  | cons a b ih =>
    cases i with
    | zero => simp at hc; subst hc; exact ⟨_, rfl, a⟩
    | succ i => exact ih (by simpa using hc)
/-- the slots at a body's start -/
def slots (N : List Str) (cs : List C) : Dl := cs.map some ++ List.replicate (N.length - cs.length) none
theorem start_eq (N : List Str) (vs : List V) : L2.start N vs = vs.map some ++ List.replicate (N.length - vs.length) none := rfl
theorem sta_start {K : Fg} {H Hd : Hp} {ls : List Addr} {vs : List V} {cs : List C} {M : Ms} (N : List Str) (a : Arg K H Hd ls vs cs M) : Sta K (slots N cs) M (L2.start N vs) H Hd ls := by
  have hl := a.vcs.length
  have key : ∀ (i : Nat) c, (slots N cs)[i]? = some (some c) → ∃ v, vs[i]? = some v ∧ VC K Hd ls v c ∧ (L2.start N vs)[i]? = some (some v) := fun i c h => by
    unfold slots at h
    by_cases hi : i < cs.length
    · rw [List.getElem?_append_left (by simpa using hi), List.getElem?_map] at h
      have hc : cs[i]? = some c := by
        cases e : cs[i]? with
        | none => rw [e] at h; cases h
        | some x => rw [e] at h; simp at h; rw [h]
      obtain ⟨v, hv, hc⟩ := a.vcs.get hc
      refine ⟨v, hv, hc, ?_⟩
      rw [start_eq, List.getElem?_append_left (by simp; omega), List.getElem?_map, hv]
      rfl
    · rw [List.getElem?_append_right (by simp; omega), List.getElem?_replicate] at h
      split at h <;> cases h
  refine ⟨a.sub, a.mlen, a.nd, a.obj, by rw [start_eq]; unfold slots; simp [hl], fun i d h => ?_, fun i k h => ?_⟩
  · obtain ⟨v, h1, h2, h3⟩ := key i _ h
    exact ⟨v, h3, h2⟩
  · obtain ⟨v, h1, ⟨l, h4, h5⟩, h3⟩ := key i _ h
    subst h5
    exact ⟨l, h4, h3⟩
section
variable {P : Program} {w : World} {K : PySem.W.Frag} {mg : Str → Option Value} {base : Heap}
/-- a def keeps its promise, by its body over data -/
theorem fok {x qual : Str} {st : Stmt} {f : Addr} {fd : FuncData} {N ps : List Str} {k : Nat} {S : FS} (F : Fun K x qual st f fd) (sc : FnScope N ps (defScope st)) (len : ∀ cs M R, S cs M R → cs.length = ps.length)
    (hbody : ∀ (cdv : Value) (A : Around) (outer : List Env) (s : Shared) (H : Hp) (E : XK), Room k (A.deeper (envOfC qual (defScope st) s.heap.objs.size f cdv)) →
      ∃ t, PSs (cxOf CX0 P w K mg base N qual (defScope st) f cdv A outer s H E).nox (defBody st) t ∧
        ∀ cs M R, S cs M R → WB K M.length t (slots N cs) M { nx := fun _ M' => R .none (M'.take M.length), rt := fun d M' => R d (M'.take M.length) }) : FnOk P w K mg base CX0 (k + 1) f fd ps (SpF K S) := by
  refine F.ok sc (fun vs H Q E h => ?_) (fun cdv A outer s H vs Q E hr h => ?_)
  · obtain ⟨Hd, ls, cs, M, R, a, hs, _⟩ := h
    rw [a.vcs.length]; exact len cs M R hs
  · obtain ⟨t, d, hb⟩ := hbody cdv A outer s H E hr
    refine ⟨t, d, ?_⟩
    obtain ⟨Hd, ls, cs, M, R, a, hs, hq⟩ := h
    have fin : ∀ v d δ' M' σ' H' Hd' ls', Run K ⟨H, Hd, ls⟩ δ' M' σ' H' Hd' ls' → Dp K Hd' v d → R d (M'.take M.length) → Q v H' := fun v d δ' M' σ' H' Hd' ls' r dv q => by
      have hle : M.length ≤ M'.length := by rw [← a.mlen, ← r.sta.mlen]; exact r.pre.length_le
      refine hq v d (M'.take M.length) H' Hd' r.sta.sub r.step (by rw [List.length_take]; omega) (fun k l m h1 h2 => ?_) dv q
      have hk : k < M.length := by
        rw [← a.mlen]; exact (List.getElem?_eq_some_iff.mp h1).1
      rw [List.getElem?_take_of_lt hk] at h2
      refine r.sta.obj k l m ?_ h2
      obtain ⟨tl, et⟩ := r.pre
      rw [← et, List.getElem?_append_left (by rw [a.mlen]; exact hk)]
      exact h1
    refine hb cs M R hs ⟨H, Hd, ls⟩ (L2.start N vs) H Hd ls _ a.mlen ⟨sta_start N a, Step.refl, List.prefix_refl _, fun k l h1 h2 => ?_⟩ (fun δ' M' σ' H' Hd' ls' r x p q => ?_) (fun v d δ' M' σ' H' Hd' ls' r x p dv q => ?_) (fun δ' M' σ' H' Hd' ls' r x p q => q) (fun δ' M' σ' H' Hd' ls' r x p q => q)
    · have := (List.getElem?_eq_some_iff.mp h1).1
      exact absurd h2 (by show ¬ ls.length ≤ k; omega)
    · exact fin .non .none δ' M' σ' H' Hd' ls' r .non q
    · exact fin v d δ' M' σ' H' Hd' ls' r dv q
end

/-! ### calls -/
section
variable {K : Fg} {δ : Dl} {M M' : Ms} {R : D → Ms → Prop} {te ta tb tc : TE} {ts tr : TA} {S : FS} {E : XK}
theorem vcs_dat {Hd : Hp} {vs : List V} {ds : List D} (h : DpAll K Hd vs ds) : VCs K Hd [] vs (ds.map .dat) := by
  induction vs generalizing ds with
  | nil => cases h; exact .nil
  | cons v vs ih => cases h with | cons h1 h2 => exact .cons h1 (ih h2)
theorem vcs_dat' {Hd : Hp} {l : List Addr} {vs : List V} {ds : List D} (h : DpAll K Hd vs ds) : VCs K Hd l vs (ds.map .dat) := by
  induction vs generalizing ds with
  | nil => cases h; exact .nil
  | cons v vs ih => cases h with | cons h1 h2 => exact .cons h1 (ih h2)
/-- f(data) -/
theorem we_call (h : WD K ts δ M fun ds M1 => S (ds.map .dat) [] fun d _ => R d M1) : WE K (tCall (SpF K S) [] E ts) δ M R := fun σ H Hd ls Q a k =>
  h σ H Hd ls _ a fun vs ds M1 H1 Hd1 a1 s1 da h1 => by
    rw [List.append_nil]
    refine ⟨Hd1, [], ds.map .dat, [], _, ⟨a1.sub, rfl, List.nodup_nil, fun k l m h => by simp at h, vcs_dat da⟩, h1, fun v d M2 H2 Hd2 x2 s2 _ _ dv q => ?_⟩
    exact k v d M1 H2 Hd2 (a1.up s2 x2) (s1.trans s2.all) dv q
/-- f(own, data) -/
theorem we_callO {i k : Nat} (ho : δ[i]? = some (some (.own k))) (h : WD K tr δ M fun ds M1 => ∃ m, M1[k]? = some m ∧ S (.own 0 :: ds.map .dat) [m] fun d M2 => ∀ m', M2 = [m'] → R d (M1.set k m')) : WE K (tCall (SpF K S) [] E (tCons (tVar i) tr)) δ M R := fun σ H Hd ls Q a kk => by
  obtain ⟨l, hl, hv⟩ := a.own i k ho
  refine ⟨_, hv, h σ H Hd ls _ a fun vs ds M1 H1 Hd1 a1 s1 da h1 => ?_⟩
  obtain ⟨m, hm, hs⟩ := h1
  rw [List.append_nil]
  have ml : M1.length = ls.length := a1.mlen.symm
  refine ⟨Hd1, [l], .own 0 :: ds.map .dat, [m], _, ⟨a1.sub, rfl, by simp, fun j x y h1 h2 => ?_, .cons ⟨l, rfl, rfl⟩ (vcs_dat' da)⟩, hs, fun v d M2 H2 Hd2 x2 s2 e2 o2 dv q => ?_⟩
  · cases j with
    | zero => simp at h1 h2; subst h1; subst h2; exact a1.obj k l _ hl hm
    | succ j => simp at h1
  · obtain ⟨m', rfl⟩ : ∃ m', M2 = [m'] := by
      cases M2 with
      | nil => cases e2
      | cons x t =>
        cases t with
        | nil => exact ⟨x, rfl⟩
        | cons _ _ => cases e2
    have s2' : Step H1 Hd1 ls H2 Hd2 := s2.sub fun x hx _ => by simp at hx; rw [hx]; exact List.mem_of_getElem? hl
    refine kk v d (M1.set k m') H2 Hd2 ⟨x2, by simp [ml], a1.nd, fun j x y h1 h2 => ?_, a1.dlen, fun j z h => ?_, a1.own⟩ (s1.trans s2') dv (q m' rfl)
    · by_cases e : k = j
      · subst e
        rw [hl] at h1; cases h1
        rw [List.getElem?_set_self (by rw [ml]; exact (List.getElem?_eq_some_iff.mp hl).1)] at h2
        cases h2
        exact o2 0 l m' rfl rfl
      · rw [List.getElem?_set_ne e] at h2
        have hx : x ∉ [l] := by
          simp
          rintro rfl
          obtain ⟨p1, q1⟩ := List.getElem?_eq_some_iff.mp hl
          obtain ⟨p2, q2⟩ := List.getElem?_eq_some_iff.mp h1
          exact e ((List.getElem_inj a1.nd).mp (q1.trans q2.symm))
        have := a1.obj j x y h1 h2
        cases y with
        | lst es => obtain ⟨z, ys, hy, hs⟩ := this; exact ⟨s2.new x (by rw [hy]; simp) z, ys, s2.old x _ hy hx, hs.up s2.ext⟩
        | dic es => obtain ⟨z, ys, hy, hk, hs⟩ := this; exact ⟨s2.new x (by rw [hy]; simp) z, ys, s2.old x _ hy hx, hk, hs.up s2.ext⟩
        | gone =>
          intro z
          cases e : Hd1 x with
          | none => exact this e
          | some o => rw [s2.ext x o e] at z; cases z
    · obtain ⟨u, h1, h2⟩ := a1.dat j z h
      exact ⟨u, h1, h2.up s2.ext⟩
end

/-! ### for, over data -/
section
variable {K : Fg} {n : Nat} {δ : Dl} {M M' : Ms} {P : Po} {te : TE} {ta : TA} {g : TG} {tb : TS} {tt : TT}
/-- the turns, one after another -/
def turns (K : Fg) (n : Nat) (g : TG) (tb : TS) : List D → Dl → Ms → Po → Prop
  | [], δ, M, P => P.nx δ M
  | d :: r, δ, M, P => WG K g d δ M fun δ1 M1 => WB K n tb δ1 M1 { nx := fun δ2 M2 => turns K n g tb r δ2 M2 P, rt := P.rt, bk := P.nx, ct := fun δ2 M2 => turns K n g tb r δ2 M2 P }
theorem turns_inv (I : Nat → Dl → Ms → Prop) {ds : List D} (h0 : I 0 δ M)
    (hs : ∀ (j : Nat) d δ M, ds[j]? = some d → I j δ M → WG K g d δ M fun δ1 M1 => WB K n tb δ1 M1 { nx := I (j + 1), rt := P.rt, bk := P.nx, ct := I (j + 1) })
    (hd : ∀ δ M, I ds.length δ M → P.nx δ M) : turns K n g tb ds δ M P := by
  suffices h : ∀ (es : List D) (j : Nat), j + es.length = ds.length → (∀ i d, es[i]? = some d → ds[j + i]? = some d) → ∀ δ M, I j δ M → turns K n g tb es δ M P from h ds 0 (by simp) (by intro i d h; simpa using h) δ M h0
  intro es
  induction es with
  | nil =>
    intro j hj _ δ M hI
    have : j = ds.length := by simpa using hj
    subst this
    exact hd δ M hI
  | cons d r ih =>
    intro j hj hi δ M hI
    have h1 := hs j d δ M (by simpa using hi 0 d rfl) hI
    have nxt : ∀ δ2 M2, I (j + 1) δ2 M2 → turns K n g tb r δ2 M2 P := fun δ2 M2 hI2 => ih (j + 1) (by simp at hj; omega) (fun i x hx => by
      have := hi (i + 1) x (by simpa using hx)
      rw [show j + 1 + i = j + (i + 1) by omega]; exact this) δ2 M2 hI2
    intro σ H Hd ls v Q a dv k
    exact h1 σ H Hd ls v Q a dv fun δ1 M1 σ1 H1 Hd1 a1 s1 q => k δ1 M1 σ1 H1 Hd1 a1 s1 (wb_mono q nxt (fun _ _ z => z) (fun _ _ z => z) nxt)
/-- the turns hold over any iterator that yields these data -/
theorem for_turns {D' : Type} {W : Ends} {σ : L2.St} {H Hd : Hp} {ls : List Addr} {e : Ent} {J : It} {ds : List D} (hn : e.ls.length = n) (r : Run K e δ M σ H Hd ls)
    (hgo : ∀ (i : Nat) H', i < ds.length → Ex Hd H' → J.go i H') (hstop : ∀ H', Ex Hd H' → J.stop ds.length H')
    (hyld : ∀ (i : Nat) H' x H2, i < ds.length → Ex Hd H' → J.yld i H' x H2 → H2 = H' ∧ ∃ d, ds[i]? = some d ∧ Dp K Hd x d)
    (h : turns K n g tb ds δ M P)
    (k1 : ∀ δ' M' σ' H' Hd' ls', Run K e δ' M' σ' H' Hd' ls' → Ex Hd Hd' → ls <+: ls' → P.nx δ' M' → W.nx σ' H')
    (k2 : ∀ v d δ' M' σ' H' Hd' ls', Run K e δ' M' σ' H' Hd' ls' → Ex Hd Hd' → ls <+: ls' → Dp K Hd' v d → P.rt d M' → W.rt v H') :
    ∃ W' : Nat → Nat → L2.St → Hp → Prop, (∃ m, W' 0 m σ H) ∧ ∀ i m σ H, W' i m σ H →
      (J.stop i H ∧ W.nx σ H) ∨ (J.go i H ∧ ∃ Nx : L2.St → Hp → Prop, (∀ σ' H', Nx σ' H' → ∃ m', m' < m ∧ W' (i + 1) m' σ' H') ∧ ∀ x H', J.yld i H x H' → g x σ H' fun σ2 H2 => tb { W with nx := Nx, ct := Nx, bk := W.nx } σ2 H2) := by
  refine ⟨fun i m σ' H' => m = ds.length - i ∧ i ≤ ds.length ∧ ∃ δ' M' Hd' ls', Run K e δ' M' σ' H' Hd' ls' ∧ Ex Hd Hd' ∧ ls <+: ls' ∧ turns K n g tb (ds.drop i) δ' M' P, ⟨ds.length, by simp, Nat.zero_le _, δ, M, Hd, ls, r, Ex.refl _, List.prefix_refl _, by simpa using h⟩, ?_⟩
  rintro i m σ1 H1 ⟨rfl, hi, δ1, M1, Hd1, ls1, r1, x1, p1, t1⟩
  have ex1 : Ex Hd H1 := x1.trans r1.sta.sub
  by_cases hlt : i < ds.length
  · refine .inr ⟨hgo i H1 hlt ex1, fun σ' H' => ∃ δ' M' Hd' ls', Run K e δ' M' σ' H' Hd' ls' ∧ Ex Hd Hd' ∧ ls <+: ls' ∧ turns K n g tb (ds.drop (i + 1)) δ' M' P, fun σ' H' q => ⟨ds.length - (i + 1), by omega, rfl, hlt, q⟩, fun x H2 y => ?_⟩
    obtain ⟨e2, d, hd, dx⟩ := hyld i H1 x H2 hlt ex1 y
    subst e2
    have e3 : ds.drop i = d :: ds.drop (i + 1) := by
      rw [List.drop_eq_getElem_cons hlt]
      rw [List.getElem?_eq_getElem hlt] at hd
      rw [Option.some.inj hd]
    rw [e3] at t1
    have t2 : WG K g d δ1 M1 fun δ1 M1 => WB K n tb δ1 M1 { nx := fun δ2 M2 => turns K n g tb (ds.drop (i + 1)) δ2 M2 P, rt := P.rt, bk := P.nx, ct := fun δ2 M2 => turns K n g tb (ds.drop (i + 1)) δ2 M2 P } := t1
    refine t2 σ1 H2 Hd1 ls1 x _ r1.sta (dx.up x1) fun δ2 M2 σ2 H2' Hd2 a2 s2 q2 => ?_
    have r2 : Run K e δ2 M2 σ2 H2' Hd2 ls1 := by
      refine ⟨a2, ⟨r1.step.ext.trans s2.ext, fun x o h n => ?_, fun x h n => s2.new x (r1.step.there x h) (r1.step.new x h n), fun x h => s2.there x (r1.step.there x h)⟩, r1.pre, r1.loc⟩
      refine s2.old x o (r1.step.old x o h n) fun hm => ?_
      obtain ⟨k, hk, ek⟩ := List.getElem_of_mem hm
      by_cases hlt : k < e.ls.length
      · obtain ⟨tl, et⟩ := r1.pre
        refine n ?_
        have : ls1[k]? = e.ls[k]? := by rw [← et, List.getElem?_append_left hlt]
        rw [List.getElem?_eq_getElem hk, ek, List.getElem?_eq_getElem hlt] at this
        rw [Option.some.inj this]
        exact List.getElem_mem hlt
      · have := r1.loc k x (by rw [List.getElem?_eq_getElem hk, ek]) (by omega)
        rw [h] at this; cases this
    refine q2 e σ2 H2' Hd2 ls1 _ hn r2 (fun δ3 M3 σ3 H3 Hd3 ls3 r3 x3 p3 q3 => ⟨δ3, M3, Hd3, ls3, r3, (x1.trans s2.ext).trans x3, p1.trans p3, q3⟩)
      (fun v d δ3 M3 σ3 H3 Hd3 ls3 r3 x3 p3 dv q3 => k2 v d δ3 M3 σ3 H3 Hd3 ls3 r3 ((x1.trans s2.ext).trans x3) (p1.trans p3) dv q3)
      (fun δ3 M3 σ3 H3 Hd3 ls3 r3 x3 p3 q3 => k1 δ3 M3 σ3 H3 Hd3 ls3 r3 ((x1.trans s2.ext).trans x3) (p1.trans p3) q3)
      (fun δ3 M3 σ3 H3 Hd3 ls3 r3 x3 p3 q3 => ⟨δ3, M3, Hd3, ls3, r3, (x1.trans s2.ext).trans x3, p1.trans p3, q3⟩)
  · have e2 : i = ds.length := by omega
    subst e2
    rw [List.drop_length] at t1
    exact .inl ⟨hstop H1 ex1, k1 δ1 M1 σ1 H1 Hd1 ls1 r1 x1 p1 t1⟩
theorem wb_forL (h : WE K te δ M fun d M1 => ∃ ds, d = .list ds ∧ turns K n g tb ds δ M1 P) : WB K n (tFor (iList K te) g tb) δ M P := fun e σ H Hd ls W hn r k1 k2 k3 k4 =>
  h σ H Hd ls _ r.sta fun v d M1 H1 Hd1 a1 s1 dv h1 => by
    obtain ⟨ds, rfl, ht⟩ := h1
    cases dv with
    | lst hq da =>
      rename_i a xs
      refine ⟨a, rfl, ⟨_, ex_l a1.sub hq⟩, ?_⟩
      refine for_turns (D' := D) hn (r.go a1 s1) (fun i H' hi x => ?_) (fun H' x => ⟨xs, ex_l x hq, Nat.le_of_eq da.length⟩) (fun i H' x H2 hi ex y => ?_) ht (fun δ' M' σ' H' Hd' ls' r' x' => k1 δ' M' σ' H' Hd' ls' r' (s1.ext.trans x')) (fun v d δ' M' σ' H' Hd' ls' r' x' => k2 v d δ' M' σ' H' Hd' ls' r' (s1.ext.trans x'))
      · exact ⟨xs, xs[i]'(by rw [da.length]; exact hi), ex_l x hq, by simp [da.length, hi]⟩
      · obtain ⟨e1, y⟩ := y
        obtain ⟨d, hd, dd⟩ := da.get (y xs (ex_l ex hq))
        exact ⟨e1, d, hd, dd⟩
theorem wb_forT (h : WE K te δ M fun d M1 => ∃ ds, d = .tuple ds ∧ turns K n g tb ds δ M1 P) : WB K n (tFor (iTup K te) g tb) δ M P := fun e σ H Hd ls W hn r k1 k2 k3 k4 =>
  h σ H Hd ls _ r.sta fun v d M1 H1 Hd1 a1 s1 dv h1 => by
    obtain ⟨ds, rfl, ht⟩ := h1
    cases dv with
    | tup hq da =>
      rename_i a xs
      refine ⟨a, rfl, ⟨_, ex_t a1.sub hq⟩, ?_⟩
      refine for_turns (D' := D) hn (r.go a1 s1) (fun i H' hi x => ?_) (fun H' x => ⟨xs, ex_t x hq, Nat.le_of_eq da.length⟩) (fun i H' x H2 hi ex y => ?_) ht (fun δ' M' σ' H' Hd' ls' r' x' => k1 δ' M' σ' H' Hd' ls' r' (s1.ext.trans x')) (fun v d δ' M' σ' H' Hd' ls' r' x' => k2 v d δ' M' σ' H' Hd' ls' r' (s1.ext.trans x'))
      · exact ⟨xs, xs[i]'(by rw [da.length]; exact hi), ex_t x hq, by simp [da.length, hi]⟩
      · obtain ⟨e1, y⟩ := y
        obtain ⟨d, hd, dd⟩ := da.get (y xs (ex_t ex hq))
        exact ⟨e1, d, hd, dd⟩
def nums (lo : Int) (n : Nat) : List D := (List.range n).map fun (i : Nat) => .int (lo + i)
theorem nums_get {lo : Int} {n i : Nat} (h : i < n) : (nums lo n)[i]? = some (.int (lo + i)) := by simp [nums, h]
theorem nums_len {lo : Int} {n : Nat} : (nums lo n).length = n := by simp [nums]
theorem wb_forR1 (h : WD K ta δ M fun ds M1 => ∃ j, ds = [.int j] ∧ -(2 ^ 62) ≤ j ∧ j < 2 ^ 62 ∧ turns K n g tb (nums 0 j.toNat) δ M1 P) : WB K n (tFor (iRng1 ta) g tb) δ M P := fun e σ H Hd ls W hn r k1 k2 k3 k4 =>
  h σ H Hd ls _ r.sta fun vs ds M1 H1 Hd1 a1 s1 dv h1 => by
    obtain ⟨j, rfl, b1, b2, ht⟩ := h1
    cases dv with
    | cons d1 d2 =>
      cases d1; cases d2
      refine ⟨j, rfl, b1, b2, ?_⟩
      refine for_turns (D' := D) hn (r.go a1 s1) (fun i H' hi x => ?_) (fun H' x => ?_) (fun i H' x H2 hi ex y => ?_) ht (fun δ' M' σ' H' Hd' ls' r' x' => k1 δ' M' σ' H' Hd' ls' r' (s1.ext.trans x')) (fun v d δ' M' σ' H' Hd' ls' r' x' => k2 v d δ' M' σ' H' Hd' ls' r' (s1.ext.trans x'))
      · rw [nums_len] at hi; exact hi
      · rw [nums_len]; exact Nat.le_refl _
      · obtain ⟨e1, e2⟩ := y
        rw [nums_len] at hi
        exact ⟨e1, _, nums_get hi, by rw [e2]; exact .int _⟩
theorem wb_forR2 (h : WD K ta δ M fun ds M1 => ∃ i j, ds = [.int i, .int j] ∧ (-(2 ^ 62) ≤ i ∧ i < 2 ^ 62 ∧ -(2 ^ 62) ≤ j ∧ j < 2 ^ 62) ∧ turns K n g tb (nums i (j - i).toNat) δ M1 P) : WB K n (tFor (iRng2 ta) g tb) δ M P := fun e σ H Hd ls W hn r k1 k2 k3 k4 =>
  h σ H Hd ls _ r.sta fun vs ds M1 H1 Hd1 a1 s1 dv h1 => by
    obtain ⟨i0, j, rfl, b, ht⟩ := h1
    cases dv with
    | cons d1 d2 =>
      cases d1
      cases d2 with
      | cons d2 d3 =>
        cases d2; cases d3
        refine ⟨i0, j, rfl, b, ?_⟩
        refine for_turns (D' := D) hn (r.go a1 s1) (fun i H' hi x => ?_) (fun H' x => ?_) (fun i H' x H2 hi ex y => ?_) ht (fun δ' M' σ' H' Hd' ls' r' x' => k1 δ' M' σ' H' Hd' ls' r' (s1.ext.trans x')) (fun v d δ' M' σ' H' Hd' ls' r' x' => k2 v d δ' M' σ' H' Hd' ls' r' (s1.ext.trans x'))
        · rw [nums_len] at hi; exact hi
        · rw [nums_len]; exact Nat.le_refl _
        · obtain ⟨e1, e2⟩ := y
          rw [nums_len] at hi
          exact ⟨e1, _, nums_get hi, by rw [e2]; exact .int _⟩
end
end PW

set_option Elab.async false
set_option linter.all false
set_option maxRecDepth 100000
set_option maxHeartbeats 2000000
namespace PW
open PySem L2 Evl PySem.Spec PyProof.Rows

/-! ### comprehensions -/
def wipeD (δ : Dl) : List Nat → Dl
  | [] => δ
  | v :: vs => (wipeD δ vs).set v none
theorem wipeD_length (δ : Dl) : ∀ vs : List Nat, (wipeD δ vs).length = δ.length
  | [] => rfl
  | v :: vs => by unfold wipeD; rw [List.length_set, wipeD_length δ vs]
theorem wipeD_some {δ : Dl} {i : Nat} {x : C} : ∀ {vs : List Nat}, (wipeD δ vs)[i]? = some (some x) → δ[i]? = some (some x) ∧ i ∉ vs
  | [], h => ⟨h, by simp⟩
  | v :: vs, h => by
    unfold wipeD at h
    by_cases hi : v = i
    · subst hi
      rw [List.getElem?_set] at h
      simp only [if_true] at h
      split at h <;> cases h
    · rw [List.getElem?_set_ne hi] at h
      obtain ⟨a, b⟩ := wipeD_some h
      exact ⟨a, by simp; exact ⟨Ne.symm hi, b⟩⟩
theorem wipe_in {σ : L2.St} {i : Nat} : ∀ {vs : List Nat}, i ∈ vs → i < σ.length → (wipe σ vs)[i]? = some none
  | [], h, _ => by simp at h
  | v :: vs, h, hl => by
    unfold wipe
    by_cases hi : v = i
    · subst hi
      rw [List.getElem?_set_self (by rw [wipe_length]; exact hl)]
    · rw [List.getElem?_set_ne hi]
      exact wipe_in ((List.mem_cons.mp h).resolve_left (Ne.symm hi)) hl
theorem wipe_same {σ σ' : L2.St} {vs : List Nat} (hl : σ'.length = σ.length) (h : ∀ j, j ∉ vs → σ'[j]? = σ[j]?) : wipe σ' vs = wipe σ vs := by
  apply List.ext_getElem?
  intro i
  by_cases hi : i ∈ vs
  · by_cases hlt : i < σ.length
    · rw [wipe_in hi hlt, wipe_in hi (by rw [hl]; exact hlt)]
    · rw [List.getElem?_eq_none (by rw [wipe_length]; omega), List.getElem?_eq_none (by rw [wipe_length]; omega)]
  · rw [wipe_out hi, wipe_out hi, h i hi]
theorem wipe_wipe {σ : L2.St} {vs : List Nat} : wipe (wipe σ vs) vs = wipe σ vs := wipe_same (wipe_length _ _) fun _ h => wipe_out h
/-- a comprehension's target: names of its own alone -/
def WC (K : Fg) (g : TG) (vs : List Nat) (d : D) (δ : Dl) (M : Ms) (R : Dl → Prop) : Prop :=
  ∀ σ H Hd ls v Q, Sta K δ M σ H Hd ls → Dp K Hd v d → (∀ δ' σ', Sta K δ' M σ' H Hd ls → σ'.length = σ.length → (∀ j, j ∉ vs → σ'[j]? = σ[j]?) → R δ' → Q σ' H) → g v σ H Q
def WCs (K : Fg) (g : TGs) (vs : List Nat) (ds : List D) (δ : Dl) (M : Ms) (R : Dl → Prop) : Prop :=
  ∀ σ H Hd ls ws Q, Sta K δ M σ H Hd ls → DpAll K Hd ws ds → (∀ δ' σ', Sta K δ' M σ' H Hd ls → σ'.length = σ.length → (∀ j, j ∉ vs → σ'[j]? = σ[j]?) → R δ' → Q σ' H) → g ws σ H Q
section
variable {K : Fg} {δ : Dl} {M M' : Ms} {R : Dl → Prop} {g : TG} {gs : TGs} {d : D} {ds : List D} {vs : List Nat}
theorem wc_name {i : Nat} (hi : i ∈ vs) (q : R (δ.set i (some (.dat d)))) : WC K (gName i) vs d δ M R := fun σ H Hd ls v Q a dv k =>
  k _ _ (a.put dv) (by simp) (fun j hj => List.getElem?_set_ne (show i ≠ j from fun e => hj (by rw [← e]; exact hi))) q
theorem wcs_nil (q : R δ) : WCs K gNil vs [] δ M R := fun σ H Hd ls ws Q a dv k => by
  cases dv
  exact ⟨rfl, k δ σ a rfl (fun _ _ => rfl) q⟩
theorem wcs_cons (h : WC K g vs d δ M fun δ1 => WCs K gs vs ds δ1 M R) : WCs K (gCons g gs) vs (d :: ds) δ M R := fun σ H Hd ls ws Q a dv k => by
  cases dv with
  | cons d1 d2 => exact ⟨_, _, rfl, h σ H Hd ls _ _ a d1 fun δ1 σ1 a1 l1 j1 h1 => h1 σ1 H Hd ls _ Q a1 d2 fun δ2 σ2 a2 l2 j2 q => k δ2 σ2 a2 (l2.trans l1) (fun j hj => (j2 j hj).trans (j1 j hj)) q⟩
theorem wc_tup {n : Nat} (hn : ds.length = n) (h : WCs K gs vs ds δ M R) : WC K (gTup K n gs) vs (.tuple ds) δ M R := fun σ H Hd ls v Q a dv k => by
  cases dv with
  | tup hs ha => exact ⟨_, _, rfl, ex_t a.sub hs, by rw [ha.length]; exact hn, h σ H Hd ls _ Q a ha k⟩
end
/-- what the comprehension makes, turn by turn -/
def comp (K : Fg) (g : TG) (tt : TT) (te : TE) (vs : List Nat) : List D → Dl → Ms → List D → (List D → Ms → Prop) → Prop
  | [], _, M, acc, R => R acc M
  | d :: r, δ, M, acc, R => WC K g vs d δ M fun δ1 => WT K tt δ1 M fun b M1 => if b = true then WE K te δ1 M1 fun y M2 => acc.length < sizeLine ∧ comp K g tt te vs r δ M2 (acc ++ [y]) R else comp K g tt te vs r δ M1 acc R
section
variable {K : Fg} {δ : Dl} {M M' : Ms} {g : TG} {tt : TT} {te tl : TE} {ta : TA} {vs : List Nat} {RL : List D → Ms → Prop}
theorem Sta.wiped {σ : L2.St} {H Hd : Hp} {ls : List Addr} (a : Sta K δ M σ H Hd ls) : Sta K (wipeD δ vs) M (wipe σ vs) H Hd ls :=
  a.forget _ _ (by rw [wipe_length, wipeD_length, a.dlen]) fun i c h => by
    obtain ⟨h1, h2⟩ := wipeD_some h
    exact ⟨h1, wipe_out h2⟩
theorem comp_by {σ : L2.St} {H Hd : Hp} {ls : List Addr} {J : It} {ds : List D} {Q : VK} {H0 : Hp} (a : Sta K δ M σ H Hd ls)
    (hgo : ∀ (i : Nat) H', i < ds.length → Ex Hd H' → J.go i H') (hstop : ∀ H', Ex Hd H' → J.stop ds.length H')
    (hyld : ∀ (i : Nat) H' x H2, i < ds.length → Ex Hd H' → J.yld i H' x H2 → H2 = H' ∧ ∃ d, ds[i]? = some d ∧ Dp K Hd x d)
    (h : comp K g tt te vs ds (wipeD δ vs) M [] RL)
    (k : ∀ p xs es M' H' Hd', Sta K δ M' σ H' Hd' ls → Step H Hd ls H' Hd' → H p = none → Hd' p = none → p ∉ ls → H' p = some (.lst xs) → DpAll K Hd' xs es → RL es M' → Q (.ref p) H') :
    ∀ Dn, H Dn = none → ∃ W : Nat → Nat → Hp → Prop, (∃ m, W 0 m (upd H Dn (.lst []))) ∧ ∀ i m H, W i m H →
      (J.stop i H ∧ Q (.ref Dn) H) ∨ (J.go i H ∧ ∃ Nx : Hp → Prop, (∀ H', Nx H' → ∃ m', m' < m ∧ W (i + 1) m' H') ∧ ∀ x H', J.yld i H x H' → g x (wipe σ vs) H' fun σ2 H2 => wipe σ2 vs = wipe σ vs ∧ tt σ2 H2 fun b H3 =>
        if b = true then te σ2 H3 fun y H4 => ∃ acc, H4 Dn = some (.lst acc) ∧ acc.length < sizeLine ∧ Nx (upd H4 Dn (.lst (acc ++ [y]))) else Nx H3) := by
  intro Dn hDn
  have hHd : Hd Dn = none := by
    cases e : Hd Dn with
    | none => rfl
    | some o => rw [a.sub Dn o e] at hDn; cases hDn
  have nDn : Dn ∉ ls := not_ls a hDn
  have s0 : Step H Hd ls (upd H Dn (.lst [])) Hd := (step_new hDn).all
  have a0 : Sta K δ M σ (upd H Dn (.lst [])) Hd ls := a.up (step_new hDn) fun b o e => by
    have := a.sub b o e
    rw [upd_ne (ne_of_none this hDn)]; exact this
  -- what stands between the turns
  let In : Nat → Hp → Prop := fun i H' => ∃ M' Hd' xs acc, Sta K δ M' σ H' Hd' ls ∧ Step H Hd ls H' Hd' ∧ Hd' Dn = none ∧ H' Dn = some (.lst xs) ∧ DpAll K Hd' xs acc ∧ comp K g tt te vs (ds.drop i) (wipeD δ vs) M' acc RL
  refine ⟨fun i m H' => m = ds.length - i ∧ i ≤ ds.length ∧ In i H', ⟨ds.length, by simp, Nat.zero_le _, M, Hd, [], [], a0, s0, hHd, upd_same, .nil, by simpa using h⟩, ?_⟩
  rintro i m H1 ⟨rfl, hi, M1, Hd1, xs, acc, a1, s1, n1, h1, d1, c1⟩
  have ex1 : Ex Hd H1 := s1.ext.trans a1.sub
  by_cases hlt : i < ds.length
  · refine .inr ⟨hgo i H1 hlt ex1, In (i + 1), fun H' q => ⟨ds.length - (i + 1), by omega, rfl, hlt, q⟩, fun x H2 y => ?_⟩
    obtain ⟨e2, d, hd, dx⟩ := hyld i H1 x H2 hlt ex1 y
    subst e2
    have e3 : ds.drop i = d :: ds.drop (i + 1) := by
      rw [List.drop_eq_getElem_cons hlt]
      rw [List.getElem?_eq_getElem hlt] at hd
      rw [Option.some.inj hd]
    rw [e3] at c1
    have c2 : WC K g vs d (wipeD δ vs) M1 fun δ1 => WT K tt δ1 M1 fun b M1 => if b = true then WE K te δ1 M1 fun y M2 => acc.length < sizeLine ∧ comp K g tt te vs (ds.drop (i + 1)) (wipeD δ vs) M2 (acc ++ [y]) RL else comp K g tt te vs (ds.drop (i + 1)) (wipeD δ vs) M1 acc RL := c1
    refine c2 (wipe σ vs) H2 Hd1 ls x _ a1.wiped (dx.up s1.ext) fun δ2 σ2 a2 l2 j2 q2 => ⟨?_, ?_⟩
    · rw [wipe_same l2 j2, wipe_wipe]
    · -- back to the slots ahead of the turn
      have back : ∀ {δ3 : Dl} {M3 : Ms} {σ3 : L2.St} {H3 Hd3 : Hp}, Sta K δ3 M3 σ3 H3 Hd3 ls → Step H2 Hd1 ls H3 Hd3 → Sta K δ M3 σ H3 Hd3 ls := fun a3 s3 =>
        ⟨a3.sub, a3.mlen, a3.nd, a3.obj, a.dlen, fun j z hz => by
          obtain ⟨v, hv, dv⟩ := a1.dat j z hz
          exact ⟨v, hv, dv.up s3.ext⟩, a.own⟩
      refine q2 σ2 H2 Hd1 ls _ a2 fun b M3 H3 Hd3 a3 s3 q3 => ?_
      have n3 : Hd3 Dn = none := s3.new Dn (by rw [h1]; simp) n1
      have h3 : H3 Dn = some (.lst xs) := s3.old Dn _ h1 nDn
      cases b with
      | false =>
        simp only [Bool.false_eq_true, if_false] at q3 ⊢
        exact ⟨M3, Hd3, xs, acc, back a3 s3, s1.trans s3, n3, h3, d1.up s3.ext, q3⟩
      | true =>
        simp only [if_true] at q3 ⊢
        refine q3 σ2 H3 Hd3 ls _ a3 fun v y M4 H4 Hd4 a4 s4 dv q4 => ?_
        have s34 := s3.trans s4
        have n4 : Hd4 Dn = none := s4.new Dn (by rw [h3]; simp) n3
        have h4 : H4 Dn = some (.lst xs) := s4.old Dn _ h3 nDn
        have st : Step H4 Hd4 ls (upd H4 Dn (.lst (xs ++ [v]))) Hd4 → True := fun _ => trivial
        have a4' := back a4 s34
        refine ⟨xs, h4, by rw [d1.length]; exact q4.1, M4, Hd4, xs ++ [v], acc ++ [y], ?_, ?_, n4, upd_same, ((d1.up s34.ext).app (.one dv)), q4.2⟩
        · refine ⟨fun b u e => ?_, a4'.mlen, a4'.nd, fun j l m hl hm => ?_, a4'.dlen, a4'.dat, a4'.own⟩
          · rw [upd_ne (ne_of_none e n4)]; exact a4'.sub b u e
          · have hx : l ≠ Dn := fun e => nDn (e ▸ List.mem_of_getElem? hl)
            have := a4'.obj j l m hl hm
            cases m with
            | lst es => obtain ⟨z, ys, hy, hs⟩ := this; exact ⟨z, ys, by rw [upd_ne hx]; exact hy, hs⟩
            | dic es => obtain ⟨z, ys, hy, hk, hs⟩ := this; exact ⟨z, ys, by rw [upd_ne hx]; exact hy, hk, hs⟩
            | gone => exact this
        · have z := s1.trans s34
          refine ⟨z.ext, fun b u e n => ?_, z.new, fun b e => ?_⟩
          · have : b ≠ Dn := ne_of_none e hDn
            rw [upd_ne this]; exact z.old b u e n
          · by_cases e' : b = Dn
            · subst e'; rw [upd_same]; simp
            · rw [upd_ne e']; exact z.there b e
  · have e2 : i = ds.length := by omega
    subst e2
    rw [List.drop_length] at c1
    exact .inl ⟨hstop H1 ex1, k Dn xs acc M1 H1 Hd1 a1 s1 hDn n1 nDn h1 d1 c1⟩
theorem wl_lcL (h : WE K tl δ M fun d M1 => ∃ ds, d = .list ds ∧ comp K g tt te vs ds (wipeD δ vs) M1 [] RL) : WL K (tLc (iList K tl) g tt te vs) δ M RL := fun σ H Hd ls Q a k =>
  h σ H Hd ls _ a fun v d M1 H1 Hd1 a1 s1 dv h1 => by
    obtain ⟨ds, rfl, ht⟩ := h1
    cases dv with
    | lst hq da =>
      rename_i ad xs
      refine ⟨ad, rfl, ⟨_, ex_l a1.sub hq⟩, ?_⟩
      refine comp_by (H0 := H) a1 (fun i H' hi x => ?_) (fun H' x => ⟨xs, ex_l x hq, Nat.le_of_eq da.length⟩) (fun i H' x H2 hi ex y => ?_) ht fun p ys es M' H' Hd' a2 s2 e1 e2 e3 e4 e5 q => k p ys es M' H' Hd' a2 (s1.trans s2) ?_ e2 e3 e4 e5 q
      · exact ⟨xs, xs[i]'(by rw [da.length]; exact hi), ex_l x hq, by simp [da.length, hi]⟩
      · obtain ⟨e1, y⟩ := y
        obtain ⟨d, hd, dd⟩ := da.get (y xs (ex_l ex hq))
        exact ⟨e1, d, hd, dd⟩
      · cases e : H p with
        | none => rfl
        | some o => exact absurd e1 (s1.there p (by rw [e]; simp))
theorem wl_lcT (h : WE K tl δ M fun d M1 => ∃ ds, d = .tuple ds ∧ comp K g tt te vs ds (wipeD δ vs) M1 [] RL) : WL K (tLc (iTup K tl) g tt te vs) δ M RL := fun σ H Hd ls Q a k =>
  h σ H Hd ls _ a fun v d M1 H1 Hd1 a1 s1 dv h1 => by
    obtain ⟨ds, rfl, ht⟩ := h1
    cases dv with
    | tup hq da =>
      rename_i ad xs
      refine ⟨ad, rfl, ⟨_, ex_t a1.sub hq⟩, ?_⟩
      refine comp_by (H0 := H) a1 (fun i H' hi x => ?_) (fun H' x => ⟨xs, ex_t x hq, Nat.le_of_eq da.length⟩) (fun i H' x H2 hi ex y => ?_) ht fun p ys es M' H' Hd' a2 s2 e1 e2 e3 e4 e5 q => k p ys es M' H' Hd' a2 (s1.trans s2) ?_ e2 e3 e4 e5 q
      · exact ⟨xs, xs[i]'(by rw [da.length]; exact hi), ex_t x hq, by simp [da.length, hi]⟩
      · obtain ⟨e1, y⟩ := y
        obtain ⟨d, hd, dd⟩ := da.get (y xs (ex_t ex hq))
        exact ⟨e1, d, hd, dd⟩
      · cases e : H p with
        | none => rfl
        | some o => exact absurd e1 (s1.there p (by rw [e]; simp))
theorem wl_lcR1 (h : WD K ta δ M fun ds M1 => ∃ j, ds = [.int j] ∧ -(2 ^ 62) ≤ j ∧ j < 2 ^ 62 ∧ comp K g tt te vs (nums 0 j.toNat) (wipeD δ vs) M1 [] RL) : WL K (tLc (iRng1 ta) g tt te vs) δ M RL := fun σ H Hd ls Q a k =>
  h σ H Hd ls _ a fun us ds M1 H1 Hd1 a1 s1 dv h1 => by
    obtain ⟨j, rfl, b1, b2, ht⟩ := h1
    cases dv with
    | cons d1 d2 =>
      cases d1; cases d2
      refine ⟨j, rfl, b1, b2, ?_⟩
      refine comp_by (H0 := H) a1 (fun i H' hi x => ?_) (fun H' x => ?_) (fun i H' x H2 hi ex y => ?_) ht fun p ys es M' H' Hd' a2 s2 e1 e2 e3 e4 e5 q => k p ys es M' H' Hd' a2 (s1.trans s2) ?_ e2 e3 e4 e5 q
      · rw [nums_len] at hi; exact hi
      · rw [nums_len]; exact Nat.le_refl _
      · obtain ⟨e1, e2⟩ := y
        rw [nums_len] at hi
        exact ⟨e1, _, nums_get hi, by rw [e2]; exact .int _⟩
      · cases e : H p with
        | none => rfl
        | some o => exact absurd e1 (s1.there p (by rw [e]; simp))
theorem wt_yes {RB : Bool → Ms → Prop} (q : RB true M) : WT K tYes δ M RB := fun σ H Hd ls Q a k => k true M H Hd a Step.refl q
end
end PW

set_option Elab.async false
set_option linter.all false
set_option maxRecDepth 100000
set_option maxHeartbeats 2000000
namespace PW
open PySem L2 Evl PySem.Spec PyProof.Rows

/-! ### defs that know that no repr is running around them -/
structure FnG (P : Program) (w : World) (K : Fg) (mg : Str → Option Value) (base : Heap) (k : Nat) (f : Addr) (fd : FuncData) (ps : List Str) (sp : Sp) : Prop where
  arity : ∀ vs H Q E, sp vs H Q E → vs.length = ps.length
  runs : ∀ (A : Around) (outer : List Env) (s : Shared) (H : Hp) (args : Args) (us : List Value) (vs : List V) (Q : VK) (E : XK), Room k A → A.guards = some [] → Env0 P w K mg base A outer s H →
    BindsTo s fd args (ps.zip us) → Vals vs us → sp vs H Q E → codeAny (model P w) A (.call (.ref f) args) (CR CX0 outer P w H s Q E) s
section
variable {P : Program} {w : World} {K : Fg} {mg : Str → Option Value} {base : Heap}
theorem FnG.up {j k : Nat} {f : Addr} {fd : FuncData} {ps : List Str} {sp : Sp} (F : FnG P w K mg base j f fd ps sp) (h : j ≤ k) : FnG P w K mg base k f fd ps sp :=
  ⟨F.arity, fun A o s H a us vs Q E r => F.runs A o s H a us vs Q E (r.mono h)⟩
/-- by the body; the context's guards are known to it -/
theorem fng {x qual : Str} {st : Stmt} {f : Addr} {fd : FuncData} {N ps : List Str} {k : Nat} {sp : Sp} (F : Fun K x qual st f fd) (S : FnScope N ps (defScope st)) (ar : ∀ vs H Q E, sp vs H Q E → vs.length = ps.length)
    (body : ∀ (cdv : Value) (A : Around) (outer : List Env) (s : Shared) (H : Hp) (vs : List V) (Q : VK) (E : XK), Room k (A.deeper (envOfC qual (defScope st) s.heap.objs.size f cdv)) → (A.deeper (envOfC qual (defScope st) s.heap.objs.size f cdv)).guards = some [] →
      sp vs H Q E → ∃ t, PSs (cxOf CX0 P w K mg base N qual (defScope st) f cdv A outer s H E).nox (defBody st) t ∧ t { nx := fun _ H' => Q .non H', rt := Q } (L2.start N vs) H) : FnG P w K mg base (k + 1) f fd ps sp := by
  obtain ⟨oc, od, kV, doc, pm, an, cdv, ct, osl, efd, look, code⟩ := F.ex
  subst efd
  constructor
  · exact ar
  · intro A outer s H args us vs Q E room guard env0 bind vals want
    have arity := ar _ _ _ _ want
    have inK : K.In s.heap := env0.mod.kin.keeps fun b o q => (env0.bs b o q).1
    have noLim : s.heap.NoLimit := env0.mod.nolimit.keeps fun b o q => (env0.bs b o q).1
    have kinds : ∀ y ∈ ps.zip us, (defScope st).names.lookup y.1 = some .local ∨ ((defScope st).names.lookup y.1 = some .cell ∧ ((cellsFrom (s.heap.objs.size + 1) (defScope st).names []).lookup y.1).isSome = true) := by
      intro y hy
      obtain ⟨nm, vl⟩ := y
      have mem := (List.of_mem_zip hy).1
      rcases S.par nm mem with z | z
      · left; exact z
      · right; exact ⟨z, PySem.W.cellsFrom_some _ _ _ (Or.inl z)⟩
    refine codeAny_call_function room.depth (inK _ _ look) rfl S.co S.gen rfl (PySem.W.codeRec_of inK code) (bind _ _ _ _ ?_)
    refine wpAny_newFunctionEnv_cells S.kind kinds fun env eenv s1 inC => ?_
    subst eenv
    refine ⟨noLim.keeps inC.toInCall.keep, codeAny_func ?_⟩
    obtain ⟨t, der, red⟩ := body cdv A outer s H vs Q E (room.deeper _) guard want
    have inv0 := inv_start (CX := CX0) (E := E) S room.hd env0 arity vals inC
    have ended : ∀ (σ' : L2.St) (H' : Hp) (s' : Shared) (v : V) (u : Value), Inv (cxOf CX0 P w K mg base N qual (defScope st) f cdv A outer s H E) [] σ' H' s' → RelV v u → Q v H' → CE outer P w H s Q u s' :=
      fun σ' H' s' v u J rv q => ⟨v, H', J.os, J.bare, J.base, J.hok, rv, q⟩
    refine wpAny_mono (der.nox.run [] s1 (L2.start N vs) H _ inv0 red) ?_ (fun e s' z => z)
    intro fl s' z
    cases fl with
    | next => obtain ⟨σ', H', J, q⟩ := z; exact ended σ' H' s' V.non Value.none J rfl q
    | ret u => obtain ⟨v, σ', H', J, rv, q⟩ := z; exact ended σ' H' s' v u J rv q
    | brk => obtain ⟨_, _, _, q⟩ := z; exact q.elim
    | cont => obtain ⟨_, _, _, q⟩ := z; exact q.elim
end
section
variable {X : Cx} {k : Nat} {f : Addr} {fd : FuncData} {ps : List Str} {sp : Sp} {x : Str} {p pos : Pos} {e : Expr} {es : List Expr} {t : TA}
theorem fng_run {pins : List (Addr × Obj)} {σ : L2.St} {H : Hp} {s : Shared} {Q : VK} {us : List Value} {vs : List V} (F : FnG X.prog X.w X.K X.mg X.base k f fd ps sp) (hr : Room k X.A) (hg : X.A.guards = some []) (hb : Binds X.K fd ps [])
    (I : Inv X pins σ H s) (r : Vals vs us) (h : sp vs H Q E0) : wpAny (model X.prog X.w) X.A (call (.ref f) us) (EP X pins σ Q) X.xe s := by
  have many : us.length = ps.length := by rw [← r.length]; exact F.arity _ _ _ _ h
  have bound := hb s us I.kIn (by rw [List.append_nil]; exact many)
  rw [List.append_nil] at bound
  refine wpAny_call (codeAny_mono (F.runs X.A X.stack s H ⟨us, []⟩ us vs Q E0 hr hg I.env0 bound r h) ?_)
  intro res s' z
  cases res with
  | error err => exact (show False from z).elim
  | ok fl =>
    cases fl with
    | ret u => exact I.after z
    | next => exact (show False from z).elim
    | brk => exact (show False from z).elim
    | cont => exact (show False from z).elim
/-- f(e, ..) -/
theorem pg_call (F : FnG X.prog X.w X.K X.mg X.base k f fd ps sp) (hr : Room k X.A) (hg : X.A.guards = some []) (hgl : Gl X x) (hm : X.mg x = some (.ref f)) (hk : PySem.W.keepIn X.K (.ref f) = true) (hb : Binds X.K fd ps [])
    (ha : PA X (e :: es) t) (hdb : (x == ("__debug__" : Str)) = false := by decide) (he : starEach (e :: es) X.env = (false, eval e X.env) :: starEach es X.env := by rfl) (hpl : (backTo pos (starEach es X.env)).any (·.1) = false := by rfl) :
    PE X (.Call (.Name x p) (e :: es) [] pos) (tCall sp [] E0 t) := by
  constructor
  intro pins s σ H Q I h
  refine wpAny_Call_Name_kw (ld_glob I hgl hm ?_ hdb)
  refine PySem.W.callWith_K (h₀ := X.base) I.ok.mod.kin hk (thn (ha.run pos pins s σ H _ I h) ?_) he hpl
  intro us s1 z
  obtain ⟨vs, H1, I1, r, q⟩ := z
  have q' : sp (vs ++ []) H1 Q E0 := q
  rw [List.append_nil] at q'
  exact ⟨I1.kIn, fng_run F hr hg hb I1 r q'⟩
theorem pg_call0 (F : FnG X.prog X.w X.K X.mg X.base k f fd ps sp) (hr : Room k X.A) (hg : X.A.guards = some []) (hgl : Gl X x) (hm : X.mg x = some (.ref f)) (hk : PySem.W.keepIn X.K (.ref f) = true) (hb : Binds X.K fd ps [])
    (hdb : (x == ("__debug__" : Str)) = false := by decide) : PE X (.Call (.Name x p) [] [] pos) (tCall sp [] E0 tNil) := by
  constructor
  intro pins s σ H Q I h
  refine wpAny_Call_Name_kw (ld_glob I hgl hm ?_ hdb)
  exact PySem.W.callWith_K0 I.kIn hk (fng_run (us := []) F hr hg hb I .nil h)
end
/-- the promise of a def, by its body over data -/
theorem fgok {P : Program} {w : World} {K : Fg} {mg : Str → Option Value} {base : Heap} {x qual : Str} {st : Stmt} {f : Addr} {fd : FuncData} {N ps : List Str} {k : Nat} {S : FS} (F : Fun K x qual st f fd) (sc : FnScope N ps (defScope st)) (len : ∀ cs M R, S cs M R → cs.length = ps.length)
    (hbody : ∀ (cdv : Value) (A : Around) (outer : List Env) (s : Shared) (H : Hp) (E : XK), Room k (A.deeper (envOfC qual (defScope st) s.heap.objs.size f cdv)) → (A.deeper (envOfC qual (defScope st) s.heap.objs.size f cdv)).guards = some [] →
      ∃ t, PSs (cxOf CX0 P w K mg base N qual (defScope st) f cdv A outer s H E).nox (defBody st) t ∧
        ∀ cs M R, S cs M R → WB K M.length t (slots N cs) M { nx := fun _ M' => R .none (M'.take M.length), rt := fun d M' => R d (M'.take M.length) }) : FnG P w K mg base (k + 1) f fd ps (SpF K S) := by
  refine fng F sc (fun vs H Q E h => ?_) (fun cdv A outer s H vs Q E hr hg h => ?_)
  · obtain ⟨Hd, ls, cs, M, R, a, hs, _⟩ := h
    rw [a.vcs.length]; exact len cs M R hs
  · obtain ⟨t, d, hb⟩ := hbody cdv A outer s H E hr hg
    refine ⟨t, d, ?_⟩
    obtain ⟨Hd, ls, cs, M, R, a, hs, hq⟩ := h
    have fin : ∀ v d δ' M' σ' H' Hd' ls', Run K ⟨H, Hd, ls⟩ δ' M' σ' H' Hd' ls' → Dp K Hd' v d → R d (M'.take M.length) → Q v H' := fun v d δ' M' σ' H' Hd' ls' r dv q => by
      have hle : M.length ≤ M'.length := by rw [← a.mlen, ← r.sta.mlen]; exact r.pre.length_le
      refine hq v d (M'.take M.length) H' Hd' r.sta.sub r.step (by rw [List.length_take]; omega) (fun k l m h1 h2 => ?_) dv q
      have hk : k < M.length := by
        rw [← a.mlen]; exact (List.getElem?_eq_some_iff.mp h1).1
      rw [List.getElem?_take_of_lt hk] at h2
      refine r.sta.obj k l m ?_ h2
      obtain ⟨tl, et⟩ := r.pre
      rw [← et, List.getElem?_append_left (by rw [a.mlen]; exact hk)]
      exact h1
    refine hb cs M R hs ⟨H, Hd, ls⟩ (L2.start N vs) H Hd ls _ a.mlen ⟨sta_start N a, Step.refl, List.prefix_refl _, fun k l h1 h2 => ?_⟩ (fun δ' M' σ' H' Hd' ls' r x p q => ?_) (fun v d δ' M' σ' H' Hd' ls' r x p dv q => ?_) (fun δ' M' σ' H' Hd' ls' r x p q => q) (fun δ' M' σ' H' Hd' ls' r x p q => q)
    · have := (List.getElem?_eq_some_iff.mp h1).1
      exact absurd h2 (by show ¬ ls.length ≤ k; omega)
    · exact fin .non .none δ' M' σ' H' Hd' ls' r .non q
    · exact fin v d δ' M' σ' H' Hd' ls' r dv q

/-! ### repr of data -/
mutual
def noD : D → Bool
  | .dict _ => false
  | .list xs => noDs xs
  | .tuple xs => noDs xs
  | _ => true
def noDs : List D → Bool
  | [] => true
  | x :: xs => noD x && noDs xs
end
mutual
theorem noD_has : ∀ d : D, noD d = true → d.hasDict = false
  | .none, _ => by simp only [PyData.hasDict]
  | .bool _, _ => by simp only [PyData.hasDict]
  | .int _, _ => by simp only [PyData.hasDict]
  | .str _, _ => by simp only [PyData.hasDict]
  | .list xs, h => by simp only [PyData.hasDict]; exact noDs_has xs (by simpa [noD] using h)
  | .tuple xs, h => by simp only [PyData.hasDict]; exact noDs_has xs (by simpa [noD] using h)
  | .dict _, h => by simp [noD] at h
theorem noDs_has : ∀ ds : List D, noDs ds = true → PyData.hasDictAll ds = false
  | [], _ => by simp only [PyData.hasDictAll]
  | x :: xs, h => by
    have h' : noD x = true ∧ noDs xs = true := by simpa [noDs] using h
    simp only [PyData.hasDictAll, noD_has x h'.1, noDs_has xs h'.2, Bool.or_self]
end
mutual
def noL : D → Bool
  | .list _ => false
  | .tuple xs => noLs xs
  | _ => true
def noLs : List D → Bool
  | [] => true
  | x :: xs => noL x && noLs xs
end
theorem lf_reads {h : Heap} {d : D} {u : Value} (f : lfD d = true) (r : RelV (lfV d) u) : Reads h u d [] := by
  cases d with
  | none => cases (show u = Value.none from r); exact Reads.none
  | bool b => cases (show u = Value.bool b from r); exact Reads.bool b
  | int i => obtain ⟨t, e⟩ := (show ∃ t, u = Value.int i t from r); cases e; exact Reads.int i t
  | str x => obtain ⟨t, e⟩ := (show ∃ t, u = Value.str x t from r); cases e; exact Reads.str x t
  | list _ => cases f
  | tuple _ => cases f
  | dict _ => cases f
theorem dic_parts {P : Program} {w : World} {h : Heap} : ∀ (ps : List (Str × D)) {es : List DictEntry} {vs : List (Key × Value)}, Pairs (mixKind P w) es vs → KV (ps.map fun p => ((.inr p.1 : Key), lfV p.2)) vs → (ps.all fun p => lfD p.2) = true →
    ReadsAll h (es.map (·.key)) (ps.map fun p => PyData.str p.1) [] ∧ ReadsAll h (es.map (·.val)) (ps.map fun p => p.2) []
  | [], es, vs, hp, hk, _ => by
    cases hk
    cases hp
    exact ⟨.nil, .nil⟩
  | p :: ps, es, vs, hp, hk, hf => by
    have hf' : lfD p.2 = true ∧ (ps.all fun p => lfD p.2) = true := by simpa using hf
    cases hk with
    | cons h1 h2 =>
      cases hp with
      | cons g1 g2 g3 =>
        obtain ⟨a1, a2⟩ := dic_parts (h := h) ps g3 h2 hf'.2
        obtain ⟨e1, r1⟩ := h1
        have e1' : _ = (Sum.inr p.1 : Key) := e1.symm
        rw [e1'] at g1
        rcases keyIs_shape (k := .inr p.1) (show keyIs (.inr p.1) _ = true from g1) with ⟨i, t, e, _⟩ | ⟨x, t, e, e2⟩
        · cases e
        · cases e
          refine ⟨?_, ?_⟩
          · exact ReadsAll.cons (as := []) (bs := []) (by dsimp only; rw [e2]; exact Reads.str _ t) a1
          · exact ReadsAll.cons (as := []) (bs := []) (by dsimp only; rw [g2]; exact lf_reads hf'.1 r1) a2
section
variable {X : Cx} {pins : List (Addr × Obj)} {σ : L2.St} {H : Hp} {s : Shared}
theorem dic_reads (I : Inv X pins σ H s) {a : Addr} {ps : List (Str × D)} (hx : L2.Rd H a (.dK (ps.map fun p => ((.inr p.1 : Key), lfV p.2)))) (hf : (ps.all fun p => lfD p.2) = true) :
    Reads s.heap (.ref a) (.dict (ps.map fun p => (PyData.str p.1, p.2))) [a] ∧ (a == sysModules) = false := by
  obtain ⟨_, hs, vs, kv, o, es, ep, e, ex, ed, _, pr, _⟩ := dk_rd I.hok hx
  obtain ⟨r1, r2⟩ := dic_parts (h := s.heap) ps pr kv hf
  refine ⟨?_, hs⟩
  have := Reads.dict (kvs := ps.map fun p => (PyData.str p.1, p.2)) e ex.1 ed (as := []) (bs := []) (by rw [List.map_map]; exact r1) (by rw [List.map_map]; exact r2)
  exact this
mutual
theorem Dp.reads (I : Inv X pins σ H s) : ∀ (d : PyData) (v : V) (u : Value), Dp X.K H v d → RelV v u → ∃ as, Reads s.heap u d as ∧ (noL d = true → ∀ b ∈ as, (b == sysModules) = false)
  | .none, _, _, h, r => by
    cases h
    cases r
    exact ⟨_, Reads.none, fun _ b hb => nomatch hb⟩
  | .bool b, _, _, h, r => by
    cases h
    cases r
    exact ⟨_, Reads.bool b, fun _ b hb => nomatch hb⟩
  | .int i, _, _, h, r => by
    cases h
    obtain ⟨t, rfl⟩ := r
    exact ⟨_, Reads.int i t, fun _ b hb => nomatch hb⟩
  | .str x, _, _, h, r => by
    cases h
    obtain ⟨t, rfl⟩ := r
    exact ⟨_, Reads.str x t, fun _ b hb => nomatch hb⟩
  | .list ds, _, _, h, r => by
    cases h with
    | lst hs ha =>
      cases r
      obtain ⟨its, rv, ⟨o, n, ho, hc, _, hd⟩, _⟩ := I.list hs
      obtain ⟨as, hr, _⟩ := Dp.readsAll I ds _ its ha rv
      exact ⟨_, Reads.list ho hc hd hr, fun z => by simp [noL] at z⟩
  | .tuple ds, _, _, h, r => by
    cases h with
    | tup hs ha =>
      cases r
      obtain ⟨its, rv, ⟨o, ho, hc, n, hd⟩, _⟩ := I.tuple hs
      obtain ⟨as, hr, hn⟩ := Dp.readsAll I ds _ its ha rv
      exact ⟨_, Reads.tuple ho hc hd hr, fun z => hn (by simpa [noL] using z)⟩
  | .dict _, _, _, h, r => by
    cases h with
    | dic h0 hx hf =>
      cases r
      subst h0
      obtain ⟨r1, hs⟩ := dic_reads I hx hf
      exact ⟨_, r1, fun _ b hb => by
        rcases List.mem_cons.mp hb with e | hb
        · rw [e]; exact hs
        · cases hb⟩
theorem Dp.readsAll (I : Inv X pins σ H s) : ∀ (ds : List PyData) (vs : List V) (us : List Value), DpAll X.K H vs ds → Vals vs us → ∃ as, ReadsAll s.heap us ds as ∧ (noLs ds = true → ∀ b ∈ as, (b == sysModules) = false)
  | [], _, _, h, r => by
    cases h
    cases r
    exact ⟨_, ReadsAll.nil, fun _ b hb => nomatch hb⟩
  | d :: ds, _, _, h, r => by
    cases h with
    | cons h1 h2 =>
      cases r with
      | cons r1 r2 =>
        obtain ⟨as, q1, n1⟩ := Dp.reads I d _ _ h1 r1
        obtain ⟨bs, q2, n2⟩ := Dp.readsAll I ds _ _ h2 r2
        refine ⟨_, ReadsAll.cons q1 q2, fun z b hb => ?_⟩
        have z' : noL d = true ∧ noLs ds = true := by simpa [noLs] using z
        rcases List.mem_append.mp hb with hb | hb
        · exact n1 z'.1 b hb
        · exact n2 z'.2 b hb
end
end
theorem not_sys {as : List Addr} (h : ∀ b ∈ as, (b == sysModules) = false) : ¬ sysModules ∈ as := fun z => by
  have := h _ z
  simp at this
/-- what can be shown: ints of moderate size, not too deep, not too long -/
structure Shw (d : D) : Prop where
  one : d.hasDict = false ∨ noL d = true
  able : d.showable = true
  deep : d.depth ≤ 100
  short : d.shown.length ≤ sizeLine
def rRepr (K : Fg) : List V → Hp → VK → Prop := fun xs H Q => ∃ v d, xs = [v] ∧ Dp K H v d ∧ Shw d ∧ Q (.str d.shown) H
theorem call_repr {X : Cx} {k : Nat} (hr : Room k X.A) (hg : X.A.guards = some []) : CallR X (.builtin "repr") (rRepr X.K) := by
  intro pins s σ H xs us Q I r h
  obtain ⟨v, d, rfl, dv, sh, q⟩ := h
  have hu := hr.un
  cases r with
  | cons r1 r2 =>
    cases r2
    cases dv with
    | non => cases r1; exact P.repr_of_none ⟨.str _, H, I.tok _, ⟨_, rfl⟩, by simpa only [PyData.shown] using q⟩
    | bl b => cases r1; exact P.repr_of_bool ⟨.str _, H, I.tok _, ⟨_, rfl⟩, by simpa only [PyData.shown] using q⟩
    | int i =>
      obtain ⟨t, rfl⟩ := r1
      exact P.repr_of_int (by have := sh.able; simpa only [PyData.showable, decide_eq_true_eq] using this) ⟨.str _, H, I.tok _, ⟨_, rfl⟩, by simpa only [PyData.shown] using q⟩
    | str x =>
      obtain ⟨t, rfl⟩ := r1
      exact P.repr_of_str (hsz := by have := sh.short; simpa only [PyData.shown] using this) ⟨.str _, H, I.tok _, ⟨_, rfl⟩, by simpa only [PyData.shown] using q⟩
    | lst hs ha =>
      rename_i a xs ds
      have dv : Dp X.K H (.ref a) (.list ds) := .lst hs ha
      obtain ⟨as, rd, rn⟩ := Dp.reads I _ _ _ dv r1
      cases r1
      refine repr_of_reads' rd sh.able (fun z => ?_) hg ?_ (fun b o e => e) (fun h' u tk hk => ⟨.str _, H, I.kept (h' := h') (t' := tk) hk, ⟨_, rfl⟩, q⟩) sh.short
      · rcases sh.one with y | y
        · rw [y] at z; cases z
        · exact not_sys (rn y)
      · have := sh.deep; omega
    | tup hs ha =>
      rename_i a xs ds
      have dv : Dp X.K H (.ref a) (.tuple ds) := .tup hs ha
      obtain ⟨as, rd, rn⟩ := Dp.reads I _ _ _ dv r1
      cases r1
      refine repr_of_reads' rd sh.able (fun z => ?_) hg ?_ (fun b o e => e) (fun h' u tk hk => ⟨.str _, H, I.kept (h' := h') (t' := tk) hk, ⟨_, rfl⟩, q⟩) sh.short
      · rcases sh.one with y | y
        · rw [y] at z; cases z
        · exact not_sys (rn y)
      · have := sh.deep; omega
    | dic h0 hx hf =>
      rename_i a ps ks
      have dv : Dp X.K H (.ref a) (.dict ks) := .dic h0 hx hf
      obtain ⟨as, rd, rn⟩ := Dp.reads I _ _ _ dv r1
      cases r1
      refine repr_of_reads' rd sh.able (fun z => ?_) hg ?_ (fun b o e => e) (fun h' u tk hk => ⟨.str _, H, I.kept (h' := h') (t' := tk) hk, ⟨_, rfl⟩, q⟩) sh.short
      · rcases sh.one with y | y
        · rw [y] at z; cases z
        · exact not_sys (rn y)
      · have := sh.deep; omega
theorem cd_repr {K : Fg} {d : D} {R : D → Prop} (sh : Shw d) (q : R (.str d.shown)) : CD K (rRepr K) [d] R := fun H Hd vs Q ex da k => by
  cases da with
  | cons d1 d2 =>
    cases d2
    exact ⟨_, d, rfl, d1.up ex, sh, k _ _ H Hd Step.refl ex (.str _) q⟩
end PW

set_option Elab.async false
set_option linter.all false
set_option maxRecDepth 100000
set_option maxHeartbeats 2000000
namespace PW
open PySem L2 Evl PySem.Spec PyProof.Rows

/-- what a law must do: for every script of at most so many ints, True -/
def lawS (n : Nat) : FS := fun cs M R => ∃ ns : List Int, cs = [.dat (.list (ns.map .int))] ∧ M = [] ∧ ns.length ≤ n ∧ (∀ z ∈ ns, Builtin.Int.intBits z ≤ 1048576) ∧ ∀ M', R (.bool true) M'
theorem dpa_ints {K : Fg} {H : Hp} : ∀ ns : List Int, DpAll K H (ns.map V.int) (ns.map PyData.int)
  | [] => .nil
  | n :: ns => .cons (.int n) (dpa_ints ns)
theorem law_end {P : Program} {w : World} {K : Fg} {mg mb : Str → Option Value} {k n : Nat} {fa a : Addr} {fd : FuncData} {x : Str} {st : Shared} {vs : List Value} {ns : List Int}
    (inK : K.In st.heap) (glob : st.heap.Ns mainGlobals mg) (blt : st.heap.Ns builtinsNs mb) (boot : ∀ x : Str, x ≠ "__name__" → mb x = bootBuiltins x) (lim : st.heap.NoLimit) (gens : st.gens = #[])
    (script : st.heap.get? a = some { cls := .type "list", data := .seq vs.toArray }) (are : IntsAre vs ns) (short : ns.length ≤ n) (n0 : n ≤ sizeLine) (bits : ∀ z ∈ ns, Builtin.Int.intBits z ≤ 1048576) (room : Room k callerA)
    (F : ∀ base : Heap, K.In base → base.Ns mainGlobals mg → FnG P w K mg base k fa fd [x] (SpF K (lawS n))) (bind : ∀ (s : Shared) (u : Value), BindsTo s fd ⟨[u], []⟩ [(x, u)]) :
    codeAny (model P w) callerA (.call (.ref fa) ⟨[.ref a], []⟩) (fun r s' => r = .ok (.ret (.bool true)) ∧ OldK st.heap s'.heap ∧ s'.os = st.os ∧ AllBare s'.gens) st := by
  have vals := vals_ints are
  have many := are.length
  have asked : ∀ H : Hp, SqL K H a (ns.map V.int) → SpF K (lawS n) [.ref a] H (fun v _ => v = .bl true) E0 := fun H sq =>
    ⟨H, [], [.dat (.list (ns.map .int))], [], fun d _ => d = .bool true, ⟨Ex.refl _, rfl, List.nodup_nil, fun _ _ _ h => by simp at h, .cons (.lst sq (dpa_ints ns)) .nil⟩, ⟨ns, rfl, rfl, short, bits, fun _ => rfl⟩, fun v d M' H' Hd' _ _ _ _ dv e => by
      subst e; cases dv; rfl⟩
  -- the heap in which the script alone may be tracked
  have main : ∀ H : Hp, Only H → SqL K H a (ns.map V.int) → HOk P w H st.heap → (∀ b, H b ≠ none → b = a) → (H a ≠ none → K.lookup a = none) →
      codeAny (model P w) callerA (.call (.ref fa) ⟨[.ref a], []⟩) (fun r s' => r = .ok (.ret (.bool true)) ∧ OldK st.heap s'.heap ∧ s'.os = st.os ∧ AllBare s'.gens) st := by
    intro H only sq hok one apart
    have there : ∀ (b : Addr) (o : Obj), st.heap.get? b = some o → H b = none → (hidT st.heap H).get? b = some o := fun b o e n => hidT_get e n
    have dictFree : ∀ (b : Addr) (o : Obj) (es : Array DictEntry) (ep : Nat), st.heap.get? b = some o → o.data = .dict es ep → H b = none := by
      intro b o es ep e d
      cases hb : H b with
      | none => rfl
      | some u =>
        obtain rfl : b = a := one b (by rw [hb]; simp)
        rw [script] at e
        cases e
        exact nomatch d
    have keepNs : ∀ (b : Addr) (m : Str → Option Value), st.heap.Ns b m → (hidT st.heap H).Ns b m := by
      intro b m z
      obtain ⟨o, es, ep, e, d, r⟩ := z
      exact ⟨o, es, ep, there b o e (dictFree b o es ep e d), d, r⟩
    have baseK : K.In (hidT st.heap H) := by
      intro b o e
      refine there b o (inK b o e) ?_
      cases hb : H b with
      | none => rfl
      | some u =>
        obtain rfl : b = a := one b (by rw [hb]; simp)
        rw [apart (by rw [hb]; simp)] at e
        cases e
    have md : Mod K mg (hidT st.heap H) := ⟨baseK, keepNs _ _ glob, ⟨mb, keepNs _ _ blt, boot⟩, by obtain ⟨mc, h1, h2⟩ := lim; exact ⟨mc, keepNs _ _ h1, h2⟩⟩
    have env0 : Env0 P w K mg (hidT st.heap H) callerA [] st H :=
      ⟨rfl, md, fun b o e => of_hidT e, Nat.le_of_eq (hidT_size _ _), trivial, fun b hb => absurd (show b ∈ ([] : List Addr) from hb) (by simp), hok, .of_eq gens⟩
    refine codeAny_mono ((F _ baseK (keepNs _ _ glob)).runs callerA [] st H ⟨[.ref a], []⟩ [.ref a] [.ref a] _ _ room rfl env0 (bind st (.ref a)) (.cons rfl .nil) (asked H sq)) ?_
    intro r s' z
    cases r with
    | error e => exact (show False from z).elim
    | ok fl =>
      cases fl with
      | next => exact (show False from z).elim
      | brk => exact (show False from z).elim
      | cont => exact (show False from z).elim
      | ret u =>
        obtain ⟨v, H', os, bare, un, hok', rel, q⟩ := z
        have q' : v = V.bl true := q
        subst q'
        obtain rfl : u = Value.bool true := rel
        refine ⟨rfl, OldK.of_keep fun b o e => ?_, os, bare⟩
        cases hb : H b with
        | none => exact un.keep b o e hb (fun m => absurd (show b ∈ ([] : List Addr) from m) (by simp)) (fun m => absurd (show b ∈ ([] : List Addr) from m) (by simp))
        | some y =>
          rcases only b with z | ⟨ob, xs, z⟩
          · rw [hb] at z; cases z
          · have e1 := (hok b _ z).1
            have e2 := (hok' b _ (un.frzs b ob _ z)).1
            rw [e] at e1
            cases e1
            exact e2
  cases hk : K.lookup a with
  | some o =>
    have e := inK a o hk
    rw [script] at e
    cases e
    exact main (fun _ => none) (fun _ => .inl rfl) (.inr ⟨_, vs.toArray, _, hk, rfl, rfl, rfl, by rw [List.size_toArray, many]; omega, by simpa using vals⟩) (fun b u z => absurd (show (none : Option HO) = some u from z) (by simp)) (fun b z => (z rfl).elim) (fun z => (z rfl).elim)
  | none =>
    have only1 : ∀ b u, (if b = a then some (HO.frz { cls := .type "list", data := .seq vs.toArray } (.lst (ns.map V.int))) else none) = some u → b = a ∧ u = HO.frz { cls := .type "list", data := .seq vs.toArray } (.lst (ns.map V.int)) := by
      intro b u z
      split at z
      · rename_i hb; cases z; exact ⟨hb, rfl⟩
      · cases z
    refine main (fun b => if b = a then some (HO.frz { cls := .type "list", data := .seq vs.toArray } (.lst (ns.map V.int))) else none) (fun b => ?_) (.inl (.inr ⟨_, if_pos rfl⟩)) (fun b u z => ?_) (fun b z => ?_) (fun _ => hk)
    · by_cases hb : b = a
      · exact .inr ⟨_, _, if_pos hb⟩
      · exact .inl (if_neg hb)
    · obtain ⟨rfl, rfl⟩ := only1 b u z
      exact ⟨script, by rw [List.length_map]; omega, vs, _, vals, script⟩
    · by_cases hb : b = a
      · exact hb
      · exact absurd (if_neg hb) z
/-- the row's end: the law's def keeps lawS -/
theorem walk_g {l : PySem.W.OpenLaw} {n k : Nat} {q : Program} {loose : List Str} {XP : (Str → Option Value) → Heap → Prop} {YP : World → Heap → Prop} {d : DefRec} {K : Params → Fg} {x : Str}
    (hn : l.most = some n) (hn2 : n ≤ sizeLine) (hdf : d.params.defaults = []) (hr : Room k callerA) (hY : ∀ (w : World) (h : Heap), YP w h → (K w.params).In h)
    (F : ∀ (w : World) (mg : Str → Option Value) (fa : Addr) (h : Heap), (K w.params).In h → h.Ns mainGlobals mg → mg d.name = some (.ref fa) →
      ∃ fd : FuncData, (∀ (s : Shared) (u : Value), BindsTo s fd ⟨[u], []⟩ [(x, u)]) ∧ ∀ base : Heap, (K w.params).In base → base.Ns mainGlobals mg → FnG l.prog w (K w.params) mg base k fa fd [x] (SpF (K w.params) (lawS n))) :
    PySem.W.WalkO q loose XP YP l.row.toRowW d [] (fun f vs => PySem.call f vs) := by
  refine Att.attach_callB hn hdf ?_
  intro w s0 s1 mg mb fa o pm cd doc a vs ns G Y ho hd hcd hmg hobj hints hlen hbits hg
  obtain ⟨fd, hb, hF⟩ := F w mg fa _ (hY w _ Y) G.T.g hmg
  exact law_end (hY w _ Y) G.T.g G.T.b G.T.builtins G.T.nolimit hg hobj hints hlen hn2 hbits hr hF hb
end PW

set_option Elab.async false
set_option linter.all false
set_option maxRecDepth 100000
set_option maxHeartbeats 2000000
namespace PW
open PySem L2 Evl PySem.Spec PyProof.Rows

/-! ### operators of the layer that take lists however they stand -/
section
variable {X : Cx}
/-- xs + ys -/
def rCatS (K : Fg) : R2 := fun x y H Q => ∃ l b xs zs, x = .ref l ∧ y = .ref b ∧ SqL K H l xs ∧ SqL K H b zs ∧ xs.length + zs.length ≤ sizeLine ∧ ∀ p, H p = none → Q (.ref p) (upd H p (.lst (xs ++ zs)))
theorem op_catS : OpR X (binaryOp .Add) (rCatS X.K) := by
  intro pins s σ H x y v u Q I rx ry h
  obtain ⟨l, b, xs, zs, rfl, rfl, hl, hb, hz, q⟩ := h
  cases rx
  cases ry
  obtain ⟨i1, r1, p1, z1⟩ := I.list hl
  obtain ⟨i2, r2, p2, z2⟩ := I.list hb
  have l1 := r1.length
  have l2 := r2.length
  obtain ⟨⟨c1, dd1, da1, sl1⟩, n1, e1, hc1, hd1, ha1⟩ := p1
  obtain ⟨⟨c2, dd2, da2, sl2⟩, n2, e2, hc2, hd2, ha2⟩ := p2
  simp only at hc1 hd1 ha1 hc2 hd2 ha2
  subst hc1 hd1 ha1 hc2 hd2 ha2
  refine concat_meets ⟨_, e1, rfl⟩ ⟨_, e2, rfl⟩ noFill_list_add seq_list_add F.slot_list_add F.entry_list_add (F.args_list_add_2 _ _) (list_addW l b i1.toArray i2.toArray n1 n2 none none sl1 sl2 (by simp only [List.size_toArray]; omega)) ⟨e1, e2, ?_⟩
  rw [show i1.toArray ++ i2.toArray = (i1 ++ i2).toArray by simp]
  exact ⟨.ref _, _, I.lnew (t' := s.toks) (r1.append r2) (by rw [List.length_append]; omega), rfl, q _ I.fresh⟩
/-- a power of a great int -/
theorem op_powW : OpR X (binaryOp .Pow) (rI (fun i j => 0 ≤ j ∧ (Builtin.Int.intBits i : Int) * j ≤ 2 ^ 27) fun i j => .int (i ^ j.toNat)) := opI fun _ _ _ _ _ _ _ hc q => PyProof.Rows.pow_int hc.1 hc.2 q
end

/-! ### operators over data -/
section
variable {K : Fg} {R : D → Prop} {RL : List D → Prop} {x y : D}
theorem od_I0 {g : Int → Int → V} {i j : Int} {d : D} (hd : ∀ H, Dp K H (g i j) d) (q : R d) : OD K (rI0 g) (.int i) (.int j) R := fun H Hd v w Q ex dx dy k => by
  cases dx; cases dy
  exact ⟨i, j, rfl, rfl, k _ d H Hd Step.refl ex (hd Hd) q⟩
theorem od_I {C : Int → Int → Prop} {g : Int → Int → V} {i j : Int} {d : D} (hc : C i j) (hd : ∀ H, Dp K H (g i j) d) (q : R d) : OD K (rI C g) (.int i) (.int j) R := fun H Hd v w Q ex dx dy k => by
  cases dx; cases dy
  exact ⟨i, j, rfl, rfl, hc, k _ d H Hd Step.refl ex (hd Hd) q⟩
theorem od_int0 {g : Int → Int → Int} {i j : Int} (q : R (.int (g i j))) : OD K (rI0 fun i j => .int (g i j)) (.int i) (.int j) R := od_I0 (fun _ => .int _) q
theorem od_bl0 {g : Int → Int → Bool} {i j : Int} (q : R (.bool (g i j))) : OD K (rI0 fun i j => .bl (g i j)) (.int i) (.int j) R := od_I0 (fun _ => .bl _) q
theorem od_int {C : Int → Int → Prop} {g : Int → Int → Int} {i j : Int} (hc : C i j) (q : R (.int (g i j))) : OD K (rI C fun i j => .int (g i j)) (.int i) (.int j) R := od_I hc (fun _ => .int _) q
theorem OD.or1 {r r' : R2} (h : OD K r x y R) : OD K (fun a b H Q => r a b H Q ∨ r' a b H Q) x y R := fun H Hd v w Q ex dx dy k => .inl (h H Hd v w Q ex dx dy k)
theorem OD.or2 {r r' : R2} (h : OD K r' x y R) : OD K (fun a b H Q => r a b H Q ∨ r' a b H Q) x y R := fun H Hd v w Q ex dx dy k => .inr (h H Hd v w Q ex dx dy k)
theorem OL.or1 {r r' : R2} (h : OL K r x y RL) : OL K (fun a b H Q => r a b H Q ∨ r' a b H Q) x y RL := fun H Hd v w Q ex dx dy k => .inl (h H Hd v w Q ex dx dy k)
theorem OL.or2 {r r' : R2} (h : OL K r' x y RL) : OL K (fun a b H Q => r a b H Q ∨ r' a b H Q) x y RL := fun H Hd v w Q ex dx dy k => .inr (h H Hd v w Q ex dx dy k)
mutual
theorem canL {K : Fg} {H : Hp} : ∀ (d : D) (v : V), Dp K H v d → PyData.canLay0 d = true → L2.Dp K H v d
  | .none, _, h, _ => by cases h; exact .non
  | .bool b, _, h, _ => by cases h; exact .bl b
  | .int i, _, h, _ => by cases h; exact .int i
  | .str x, _, h, _ => by cases h; exact .str x
  | .list ds, _, h, c => by
    cases h with
    | lst hs ha => exact .lst hs (canLs ds _ ha (by rw [PyData.canLay0.eq_5] at c; exact c))
  | .tuple ds, _, h, c => by
    cases h with
    | tup hs ha => exact .tup hs (canLs ds _ ha (by rw [PyData.canLay0.eq_6] at c; exact c))
  | .dict _, _, _, c => by rw [PyData.canLay0.eq_7] at c; cases c
theorem canLs {K : Fg} {H : Hp} : ∀ (ds : List D) (vs : List V), DpAll K H vs ds → PyData.canLayAll0 ds = true → L2.DpAll K H vs ds
  | [], _, h, _ => by cases h; exact .nil
  | d :: ds, _, h, c => by
    cases h with
    | cons h1 h2 =>
      have c' : PyData.canLay0 d = true ∧ PyData.canLayAll0 ds = true := by rw [PyData.canLayAll0.eq_2] at c; simpa using c
      exact .cons (canL d _ h1 c'.1) (canLs ds _ h2 c'.2)
end
theorem shL {K : Fg} {H : Hp} {d : D} {v : V} (h : Dp K H v d) (s : SeqAt.shaped d = true) : L2.Dp K H v d := canL d v h (by
  have : PyData.canLay0 d = true ∧ d.depth ≤ 64 := by simpa [SeqAt.shaped] using s
  exact this.1)
theorem od_eqD (sx : SeqAt.shaped x = true) (sy : SeqAt.shaped y = true) (q : R (.bool (PyData.eqv x y))) : OD K (rEqD K) x y R := fun H Hd v w Q ex dx dy k =>
  ⟨x, y, shL (dx.up ex) sx, shL (dy.up ex) sy, sx, sy, k _ _ H Hd Step.refl ex (.bl _) q⟩
theorem od_neD (sx : SeqAt.shaped x = true) (sy : SeqAt.shaped y = true) (q : R (.bool (!PyData.eqv x y))) : OD K (rNeD K) x y R := fun H Hd v w Q ex dx dy k =>
  ⟨x, y, shL (dx.up ex) sx, shL (dy.up ex) sy, sx, sy, k _ _ H Hd Step.refl ex (.bl _) q⟩
theorem od_eqS {a b : Str} (q : R (.bool (a == b))) : OD K rEq (.str a) (.str b) R := fun H Hd v w Q ex dx dy k => by
  cases dx; cases dy
  exact ⟨rfl, by rw [dec_str]; exact k _ _ H Hd Step.refl ex (.bl _) q⟩
theorem od_neS {a b : Str} (q : R (.bool (!(a == b)))) : OD K rNe (.str a) (.str b) R := fun H Hd v w Q ex dx dy k => by
  cases dx; cases dy
  exact ⟨rfl, by rw [dec_str]; exact k _ _ H Hd Step.refl ex (.bl _) q⟩
def isNone : D → Bool
  | .none => true
  | _ => false
theorem dp_none {H : Hp} {v : V} (h : Dp K H v x) : decide (v = V.non) = isNone x := by
  cases h <;> simp [isNone]
theorem od_isN (q : R (.bool (isNone x))) : OD K (fun x y H Q => y = .non ∧ Q (.bl (decide (x = .non))) H) x .none R := fun H Hd v w Q ex dx dy k => by
  cases dy
  exact ⟨rfl, by rw [dp_none dx]; exact k _ _ H Hd Step.refl ex (.bl _) q⟩
theorem od_notN (q : R (.bool (!isNone x))) : OD K (fun x y H Q => y = .non ∧ Q (.bl (!decide (x = .non))) H) x .none R := fun H Hd v w Q ex dx dy k => by
  cases dy
  exact ⟨rfl, by rw [dp_none dx]; exact k _ _ H Hd Step.refl ex (.bl _) q⟩
/-! in -/
def flatD : D → Bool
  | .none => true
  | .bool _ => true
  | .int _ => true
  | .str _ => true
  | _ => false
theorem flat_of {H : Hp} {v : V} (h : Dp K H v x) (f : flatD x = true) : flatV v = true := by
  cases h <;> first | rfl | exact absurd f (by simp [flatD])
theorem flats_of {H : Hp} : ∀ {vs : List V} {ds : List D}, DpAll K H vs ds → ds.all flatD = true → vs.all flatV = true
  | [], _, h, f => rfl
  | v :: vs, _, h, f => by
    cases h with
    | cons h1 h2 =>
      rw [List.all_cons, Bool.and_eq_true] at f ⊢
      exact ⟨flat_of h1 f.1, flats_of h2 f.2⟩
theorem eqV_of {H : Hp} {v w : V} (h : Dp K H v x) (g : Dp K H w y) (f : flatD x = true) (f' : flatD y = true) : eqV v w = PyData.eqv x y := by
  cases h <;> cases g <;> first | (simp [eqV, PyData.eqv]; done) | exact absurd f (by simp [flatD]) | exact absurd f' (by simp [flatD])
theorem inV_of {H : Hp} {v : V} (g : Dp K H v x) (f' : flatD x = true) : ∀ {vs : List V} {ds : List D}, DpAll K H vs ds → ds.all flatD = true → inV v vs = ds.any fun z => PyData.eqv z x
  | [], _, h, f => by cases h; rfl
  | w :: vs, _, h, f => by
    cases h with
    | cons h1 h2 =>
      rw [List.all_cons, Bool.and_eq_true] at f
      have ih := inV_of g f' h2 f.2
      unfold inV at ih ⊢
      rw [List.any_cons, List.any_cons, ih, eqV_of h1 g f.1 f']
theorem od_inT {ds : List D} (f : flatD x = true) (fs : ds.all flatD = true) (q : R (.bool (ds.any fun z => PyData.eqv z x))) : OD K (rIn K false) x (.tuple ds) R := fun H Hd v w Q ex dx dy k => by
  cases dy with
  | tup hs ha =>
    refine ⟨_, _, rfl, .inr (ex_t ex hs), flat_of dx f, flats_of ha fs, ?_⟩
    have e := inV_of dx f ha fs
    simp only [Bool.false_eq_true, if_false, e]
    exact k _ _ H Hd Step.refl ex (.bl _) q
theorem od_notInT {ds : List D} (f : flatD x = true) (fs : ds.all flatD = true) (q : R (.bool (!ds.any fun z => PyData.eqv z x))) : OD K (rIn K true) x (.tuple ds) R := fun H Hd v w Q ex dx dy k => by
  cases dy with
  | tup hs ha =>
    refine ⟨_, _, rfl, .inr (ex_t ex hs), flat_of dx f, flats_of ha fs, ?_⟩
    have e := inV_of dx f ha fs
    simp only [if_true, e]
    exact k _ _ H Hd Step.refl ex (.bl _) q
theorem od_inL {ds : List D} (f : SeqAt.shaped x = true) (fs : SeqAt.shaped (.list ds) = true) (q : R (.bool (ds.any fun z => PyData.eqv z x))) : OD K (rInD K) x (.list ds) R := fun H Hd v w Q ex dx dy k =>
  ⟨x, ds, shL (dx.up ex) f, shL (dy.up ex) fs, f, fs, k _ _ H Hd Step.refl ex (.bl _) q⟩
theorem od_notInL {ds : List D} (f : SeqAt.shaped x = true) (fs : SeqAt.shaped (.list ds) = true) (q : R (.bool (!ds.any fun z => PyData.eqv z x))) : OD K (rNotInD K) x (.list ds) R := fun H Hd v w Q ex dx dy k =>
  ⟨x, ds, shL (dx.up ex) f, shL (dy.up ex) fs, f, fs, k _ _ H Hd Step.refl ex (.bl _) q⟩
/-! items -/
theorem atI_up {H : Hp} {vs : List V} {ds : List D} {i : Int} {d : D} (h : DpAll K H vs ds) (e : atI ds i = some d) : ∃ v, atI vs i = some v ∧ Dp K H v d := by
  unfold atI at e ⊢
  rw [h.length]
  cases q : ixN ds.length i with
  | none => rw [q] at e; cases e
  | some j =>
    rw [q] at e
    exact h.got e
theorem od_ixL {ds : List D} {i : Int} {d : D} (e : atI ds i = some d) (q : R d) : OD K (rIxL K) (.list ds) (.int i) R := fun H Hd v w Q ex dx dy k => by
  cases dy
  cases dx with
  | lst hs ha =>
    obtain ⟨u, hu, du⟩ := atI_up ha e
    exact ⟨_, _, i, u, rfl, rfl, ex_l ex hs, hu, k _ _ H Hd Step.refl ex du q⟩
theorem od_ixT {ds : List D} {i : Int} {d : D} (e : atI ds i = some d) (q : R d) : OD K (rIxT K) (.tuple ds) (.int i) R := fun H Hd v w Q ex dx dy k => by
  cases dy
  cases dx with
  | tup hs ha =>
    obtain ⟨u, hu, du⟩ := atI_up ha e
    exact ⟨_, _, i, u, rfl, rfl, ex_t ex hs, hu, k _ _ H Hd Step.refl ex du q⟩
theorem od_ixS {z : Str} {i : Int} {c : Nat} (hz : z.length ≤ sizeLine) (e : atI z.cps.toList i = some c) (q : R (.str ⟨#[c]⟩)) : OD K rIxS (.str z) (.int i) R := fun H Hd v w Q ex dx dy k => by
  cases dy; cases dx
  exact ⟨z, i, c, rfl, rfl, hz, e, k _ _ H Hd Step.refl ex (.str _) q⟩
theorem od_ix_l {ds : List D} {i : Int} {d : D} (e : atI ds i = some d) (q : R d) : OD K (rIx K) (.list ds) (.int i) R := fun H Hd v w Q ex dx dy k => .inl (od_ixL e q H Hd v w Q ex dx dy k)
theorem od_ix_t {ds : List D} {i : Int} {d : D} (e : atI ds i = some d) (q : R d) : OD K (rIx K) (.tuple ds) (.int i) R := fun H Hd v w Q ex dx dy k => .inr (.inl (od_ixT e q H Hd v w Q ex dx dy k))
theorem od_ix_s {z : Str} {i : Int} {c : Nat} (hz : z.length ≤ sizeLine) (e : atI z.cps.toList i = some c) (q : R (.str ⟨#[c]⟩)) : OD K (rIx K) (.str z) (.int i) R := fun H Hd v w Q ex dx dy k => .inr (.inr (od_ixS hz e q H Hd v w Q ex dx dy k))
/-! + of lists, of tuples -/
theorem ol_cat {xs ys : List D} (hz : xs.length + ys.length ≤ sizeLine) (q : RL (xs ++ ys)) : OL K (rCatS K) (.list xs) (.list ys) RL := fun H Hd v w Q ex dx dy k => by
  cases dx with
  | lst h1 a1 =>
    cases dy with
    | lst h2 a2 => exact ⟨_, _, _, _, rfl, rfl, ex_l ex h1, ex_l ex h2, by rw [a1.length, a2.length]; exact hz, fun p hp => k p _ _ hp (a1.app a2) q⟩
theorem tupNew {H Hd : Hp} {xs : List V} {ds : List D} {p : Addr} (ex : Ex Hd H) (hp : H p = none) (da : DpAll K Hd xs ds) : Step H Hd [] (upd H p (.tup xs)) (upd Hd p (.tup xs)) ∧ Ex (upd Hd p (.tup xs)) (upd H p (.tup xs)) ∧ Dp K (upd Hd p (.tup xs)) (.ref p) (.tuple ds) := by
  have hd : Hd p = none := by
    cases e : Hd p with
    | none => rfl
    | some o => rw [ex p o e] at hp; cases hp
  have en : Ex Hd (upd Hd p (.tup xs)) := Ex.new hd
  refine ⟨⟨en, (step_new hp (Hd := Hd)).old, fun b h1 h2 => ?_, (step_new hp (Hd := Hd)).there⟩, fun b o e => ?_, .tup (SqT.of upd_same) (da.up en)⟩
  · have : b ≠ p := fun z => h1 (z ▸ hp)
    rw [upd_ne this]; exact h2
  · by_cases e' : b = p
    · subst e'; rw [upd_same] at e; cases e; exact upd_same
    · rw [upd_ne e'] at e; rw [upd_ne e']; exact ex b o e
theorem od_catT {xs ys : List D} (hx : xs ≠ []) (hz : xs.length + ys.length ≤ sizeLine) (q : R (.tuple (xs ++ ys))) : OD K (rCatT K) (.tuple xs) (.tuple ys) R := fun H Hd v w Q ex dx dy k => by
  cases dx with
  | tup h1 a1 =>
    cases dy with
    | tup h2 a2 =>
      refine ⟨_, _, _, _, rfl, rfl, ex_t ex h1, ex_t ex h2, fun e => ?_, by rw [a1.length, a2.length]; exact hz, fun e => ?_, fun e p hp => ?_⟩
      · have := a1.length; rw [e] at this; exact hx (List.length_eq_zero_iff.mp this.symm)
      · have : ys = [] := by have := a2.length; rw [e] at this; exact List.length_eq_zero_iff.mp this.symm
        subst this
        rw [List.append_nil] at q
        exact k _ _ H Hd Step.refl ex (.tup h1 a1) q
      · obtain ⟨s1, e1, d1⟩ := tupNew ex hp (a1.app a2)
        exact k _ _ _ _ s1 e1 d1 q
/-! built-ins -/
theorem cd_abs {i : Int} (q : R (.int (if i < 0 then -i else i))) : CD K (fun xs H Q => ∃ i, xs = [.int i] ∧ Q (.int (if i < 0 then -i else i)) H) [.int i] R := fun H Hd vs Q ex da k => by
  cases da with
  | cons d1 d2 => cases d1; cases d2; exact ⟨i, rfl, k _ _ H Hd Step.refl ex (.int _) q⟩
theorem cd_int {i : Int} (q : R (.int i)) : CD K (fun xs H Q => (∃ i, xs = [.int i] ∧ Q (.int i) H) ∨ ∃ k, xs = [.bl k] ∧ Q (.int (if k then 1 else 0)) H) [.int i] R := fun H Hd vs Q ex da k => by
  cases da with
  | cons d1 d2 => cases d1; cases d2; exact .inl ⟨i, rfl, k _ _ H Hd Step.refl ex (.int _) q⟩
theorem cd_intB {b : Bool} (q : R (.int (if b then 1 else 0))) : CD K (fun xs H Q => (∃ i, xs = [.int i] ∧ Q (.int i) H) ∨ ∃ k, xs = [.bl k] ∧ Q (.int (if k then 1 else 0)) H) [.bool b] R := fun H Hd vs Q ex da k => by
  cases da with
  | cons d1 d2 => cases d1; cases d2; exact .inr ⟨b, rfl, k _ _ H Hd Step.refl ex (.int _) q⟩
theorem cd_max2 {i j : Int} (q : R (.int (if j > i then j else i))) : CD K (fun xs H Q => ∃ i j, xs = [.int i, .int j] ∧ Q (.int (if j > i then j else i)) H) [.int i, .int j] R := fun H Hd vs Q ex da k => by
  cases da with
  | cons d1 d2 => cases d1; cases d2 with | cons d2 d3 => cases d2; cases d3; exact ⟨i, j, rfl, k _ _ H Hd Step.refl ex (.int _) q⟩
theorem cd_min2 {i j : Int} (q : R (.int (if j < i then j else i))) : CD K (fun xs H Q => ∃ i j, xs = [.int i, .int j] ∧ Q (.int (if j < i then j else i)) H) [.int i, .int j] R := fun H Hd vs Q ex da k => by
  cases da with
  | cons d1 d2 => cases d1; cases d2 with | cons d2 d3 => cases d2; cases d3; exact ⟨i, j, rfl, k _ _ H Hd Step.refl ex (.int _) q⟩
def rLenD (K : Fg) : List V → Hp → VK → Prop := fun xs H Q => (∃ p ys, xs = [.ref p] ∧ (SqL K H p ys ∨ SqT K H p ys) ∧ Q (.int ys.length) H) ∨ ∃ z, xs = [.str z] ∧ z.length ≤ sizeLine ∧ Q (.int z.length) H
theorem call_lenD {X : Cx} : CallR X (.builtin "len") (rLenD X.K) := by
  intro pins s σ H xs us Q I r h
  rcases h with h | h
  · exact call_len_seq pins s σ H xs us Q I r h
  · exact call_len_str pins s σ H xs us Q I r h
theorem cd_lenL {ds : List D} (q : R (.int ds.length)) : CD K (rLenD K) [.list ds] R := fun H Hd vs Q ex da k => by
  cases da with
  | cons d1 d2 => cases d2; cases d1 with | lst hs ha => exact .inl ⟨_, _, rfl, .inl (ex_l ex hs), by rw [ha.length]; exact k _ _ H Hd Step.refl ex (.int _) q⟩
theorem cd_lenT {ds : List D} (q : R (.int ds.length)) : CD K (rLenD K) [.tuple ds] R := fun H Hd vs Q ex da k => by
  cases da with
  | cons d1 d2 => cases d2; cases d1 with | tup hs ha => exact .inl ⟨_, _, rfl, .inr (ex_t ex hs), by rw [ha.length]; exact k _ _ H Hd Step.refl ex (.int _) q⟩
theorem cd_lenS {z : Str} (hz : z.length ≤ sizeLine) (q : R (.int z.length)) : CD K (rLenD K) [.str z] R := fun H Hd vs Q ex da k => by
  cases da with
  | cons d1 d2 => cases d2; cases d1; exact .inr ⟨z, rfl, hz, k _ _ H Hd Step.refl ex (.int _) q⟩
/-- tuple(xs): the same tuple, or a new one -/
def rTupD (K : Fg) : List V → Hp → VK → Prop := fun xs H Q => ∃ p ys, xs = [.ref p] ∧ ((SqL K H p ys ∧ ∀ l, H l = none → Q (.ref l) (upd H l (.tup ys))) ∨ (SqT K H p ys ∧ Q (.ref p) H))
theorem cd_tupL {ds : List D} (q : R (.tuple ds)) : CD K (rTupD K) [.list ds] R := fun H Hd vs Q ex da k => by
  cases da with
  | cons d1 d2 =>
    cases d2
    cases d1 with
    | lst hs ha => exact ⟨_, _, rfl, .inl ⟨ex_l ex hs, fun l hl => by
      obtain ⟨s1, e1, d1⟩ := tupNew ex hl ha
      exact k _ _ _ _ s1 e1 d1 q⟩⟩
theorem cd_tupT {ds : List D} (q : R (.tuple ds)) : CD K (rTupD K) [.tuple ds] R := fun H Hd vs Q ex da k => by
  cases da with
  | cons d1 d2 =>
    cases d2
    cases d1 with
    | tup hs ha => exact ⟨_, _, rfl, .inr ⟨ex_t ex hs, k _ _ H Hd Step.refl ex (.tup hs ha) q⟩⟩
def rLstD (K : Fg) : List V → Hp → VK → Prop := fun xs H Q => ∃ p ys, xs = [.ref p] ∧ (SqL K H p ys ∨ SqT K H p ys) ∧ ∀ l, H l = none → Q (.ref l) (upd H l (.lst ys))
theorem cl_lstL {ds : List D} (q : RL ds) : CL K (rLstD K) [.list ds] RL := fun H Hd vs Q ex da k => by
  cases da with
  | cons d1 d2 => cases d2; cases d1 with | lst hs ha => exact ⟨_, _, rfl, .inl (ex_l ex hs), fun l hl => k l _ _ hl ha q⟩
theorem cl_lstT {ds : List D} (q : RL ds) : CL K (rLstD K) [.tuple ds] RL := fun H Hd vs Q ex da k => by
  cases da with
  | cons d1 d2 => cases d2; cases d1 with | tup hs ha => exact ⟨_, _, rfl, .inr (ex_t ex hs), fun l hl => k l _ _ hl ha q⟩
theorem dpa_map_int {H : Hp} : ∀ {vs : List V} {ns : List Int}, DpAll K H vs (ns.map .int) → vs = ns.map V.int
  | [], [], h => rfl
  | [], n :: ns, h => by cases h
  | v :: vs, [], h => by cases h
  | v :: vs, n :: ns, h => by
    cases h with
    | cons h1 h2 => cases h1; rw [dpa_map_int h2]; rfl
theorem dpa_map_bl {H : Hp} : ∀ {vs : List V} {ns : List Bool}, DpAll K H vs (ns.map .bool) → vs = ns.map V.bl
  | [], [], h => rfl
  | [], n :: ns, h => by cases h
  | v :: vs, [], h => by cases h
  | v :: vs, n :: ns, h => by
    cases h with
    | cons h1 h2 => cases h1; rw [dpa_map_bl h2]; rfl
theorem cd_maxL {ns : List Int} (h0 : 0 < ns.length) (q : ∀ m, m ∈ ns → (∀ y, y ∈ ns → y ≤ m) → R (.int m)) : CD K (rMax K) [.list (ns.map .int)] R := fun H Hd vs Q ex da k => by
  cases da with
  | cons d1 d2 => cases d2; cases d1 with | lst hs ha => exact ⟨_, ns, rfl, by rw [← dpa_map_int ha]; exact ex_l ex hs, h0, fun m h1 h2 => k _ _ H Hd Step.refl ex (.int _) (q m h1 h2)⟩
theorem cd_minL {ns : List Int} (h0 : 0 < ns.length) (q : ∀ m, m ∈ ns → (∀ y, y ∈ ns → m ≤ y) → R (.int m)) : CD K (rMin K) [.list (ns.map .int)] R := fun H Hd vs Q ex da k => by
  cases da with
  | cons d1 d2 => cases d2; cases d1 with | lst hs ha => exact ⟨_, ns, rfl, by rw [← dpa_map_int ha]; exact ex_l ex hs, h0, fun m h1 h2 => k _ _ H Hd Step.refl ex (.int _) (q m h1 h2)⟩
theorem cd_sum {ns : List Int} (q : R (.int ns.sum)) : CD K (rSum K) [.list (ns.map .int)] R := fun H Hd vs Q ex da k => by
  cases da with
  | cons d1 d2 => cases d2; cases d1 with | lst hs ha => exact ⟨_, ns, rfl, by rw [← dpa_map_int ha]; exact ex_l ex hs, k _ _ H Hd Step.refl ex (.int _) q⟩
theorem cd_all {bs : List Bool} (q : R (.bool (bs.all id))) : CD K (rAll K) [.list (bs.map .bool)] R := fun H Hd vs Q ex da k => by
  cases da with
  | cons d1 d2 => cases d2; cases d1 with | lst hs ha => exact ⟨_, bs, rfl, by rw [← dpa_map_bl ha]; exact ex_l ex hs, k _ _ H Hd Step.refl ex (.bl _) q⟩
theorem cd_any {bs : List Bool} (q : R (.bool (bs.any id))) : CD K (rAny K) [.list (bs.map .bool)] R := fun H Hd vs Q ex da k => by
  cases da with
  | cons d1 d2 => cases d2; cases d1 with | lst hs ha => exact ⟨_, bs, rfl, by rw [← dpa_map_bl ha]; exact ex_l ex hs, k _ _ H Hd Step.refl ex (.bl _) q⟩
/-! isinstance of built-in kinds -/
def tyD : D → String
  | .none => "NoneType"
  | .bool _ => "bool"
  | .int _ => "int"
  | .str _ => "str"
  | .list _ => "list"
  | .tuple _ => "tuple"
  | .dict _ => "dict"
theorem tyx_of {H : Hp} {v : V} (h : Dp K H v x) : TyX K H v (.type (tyD x)) := by
  cases h with
  | non => exact .base .non
  | bl b => exact .base (.bl b)
  | int i => exact .base (.int i)
  | str z => exact .base (.str z)
  | lst hs ha =>
    rcases hs with (hs | ⟨o, hs⟩) | ⟨o, its, n, hk, hc, _⟩
    · exact .base (.lst hs)
    · exact .base (.frz hs)
    · exact .kList hk hc
  | tup hs ha =>
    rcases hs with (hs | ⟨o, hs⟩) | ⟨o, its, n, hk, hc, _⟩
    · exact .base (.tup hs)
    · exact .fTuple hs
    · exact .kTuple hk hc
  | dic h0 hs hf =>
    rcases hs with hs | ⟨o, hs⟩
    · exact .base (.dK hs)
    · exact .fDict hs
def isD (n : String) (d : D) : Bool := n == tyD d || (n == "int" && tyD d == "bool") || n == "object"
end
section
variable {K : Fg} {δ : Dl} {M M' : Ms} {R : D → Ms → Prop} {RL : List D → Ms → Prop} {te ta tb : TE} {tl th : TO}
/-- isinstance(e, T), T a built-in kind -/
theorem we_isi {n : String} {f : D → Bool} (hf : ∀ d, kitB (tyD d) n = some (f d)) (h : WE K te δ M fun d M1 => R (.bool (f d)) M1) : WE K (tCB (rIsi K) (tCons te (tCons (tC (.ty n)) tNil))) δ M R := fun σ H Hd ls Q a k =>
  h σ H Hd ls _ a fun v d M1 H1 Hd1 a1 s1 dv q => ⟨v, .ty n, _, _, _, rfl, .ty n, tyx_of (dv.up a1.sub), kit_ty (hf d), k _ _ M1 H1 Hd1 a1 s1 (.bl _) q⟩
/-! slices -/
def WO (K : Fg) (t : TO) (δ : Dl) (M : Ms) (R : Option Int → Ms → Prop) : Prop :=
  ∀ σ H Hd ls Q, Sta K δ M σ H Hd ls → (∀ o M' H' Hd', Sta K δ M' σ H' Hd' ls → Step H Hd ls H' Hd' → R o M' → Q o H') → t σ H Q
theorem wo_none {RO : Option Int → Ms → Prop} (q : RO none M) : WO K tNoPart δ M RO := fun σ H Hd ls Q a k => k none M H Hd a Step.refl q
theorem wo_some {RO : Option Int → Ms → Prop} (h : WE K te δ M fun d M1 => ∃ i, d = .int i ∧ RO (some i) M1) : WO K (tPart te) δ M RO := fun σ H Hd ls Q a k =>
  h σ H Hd ls _ a fun v d M1 H1 Hd1 a1 s1 dv ⟨i, e, q⟩ => by
    subst e; cases dv
    exact ⟨i, rfl, k _ M1 H1 Hd1 a1 s1 q⟩
def cutD (xs : List D) (lo hi : Option Int) : List D := (xs.drop (HT.sIx xs.length 0 lo)).take (HT.sIx xs.length xs.length hi - HT.sIx xs.length 0 lo)
theorem cut_up {H : Hp} {vs : List V} {ds : List D} (h : DpAll K H vs ds) (lo hi : Option Int) : DpAll K H (cutV vs lo hi) (cutD ds lo hi) := by
  unfold cutV cutD
  rw [h.length]
  exact (h.drop _).take _
theorem wl_slL (h : WE K te δ M fun d M1 => WO K tl δ M1 fun lo M2 => WO K th δ M2 fun hi M3 => ∃ ds, d = .list ds ∧ RL (cutD ds lo hi) M3) : WL K (tSl (rSlL K) te tl th) δ M RL := fun σ H Hd ls Q a k =>
  h σ H Hd ls _ a fun v d M1 H1 Hd1 a1 s1 dv h1 => h1 σ H1 Hd1 ls _ a1 fun lo M2 H2 Hd2 a2 s2 h2 => h2 σ H2 Hd2 ls _ a2 fun hi M3 H3 Hd3 a3 s3 h3 => by
    obtain ⟨ds, rfl, q⟩ := h3
    have s13 := (s1.trans s2).trans s3
    have dv3 := dv.up (s2.ext.trans s3.ext)
    cases dv3 with
    | lst hs ha =>
      refine ⟨_, _, rfl, ex_l a3.sub hs, fun p hp => ?_⟩
      refine k p _ _ M3 (upd H3 p _) Hd3 (a3.up (step_new hp) fun b o e => ?_) (s13.trans (step_new hp).all) ?_ ?_ (not_ls a3 hp) upd_same (cut_up ha lo hi) q
      · have := a3.sub b o e
        rw [upd_ne (ne_of_none this hp)]; exact this
      · cases e : H p with
        | none => rfl
        | some o => exact absurd hp (s13.there p (by rw [e]; simp))
      · cases e : Hd3 p with
        | none => rfl
        | some o => rw [a3.sub p o e] at hp; cases hp
/-- a slice of a tuple that is not the whole -/
theorem we_slT (h : WE K te δ M fun d M1 => WO K tl δ M1 fun lo M2 => WO K th δ M2 fun hi M3 => ∃ ds, d = .tuple ds ∧ R (.tuple (cutD ds lo hi)) M3)
    (hw : ∀ (H : Hp) (x : V) (lo hi : Option Int) (ds : List D) (Q : VK), (∃ a xs, x = .ref a ∧ SqT K H a xs ∧ DpAll K H xs ds ∧ (cutV xs lo hi = xs → Q (.ref a) H) ∧ (∀ p, H p = none → Q (.ref p) (upd H p (.tup (cutV xs lo hi))))) → rSlT K x lo hi H Q) : WE K (tSl (rSlT K) te tl th) δ M R := fun σ H Hd ls Q a k =>
  h σ H Hd ls _ a fun v d M1 H1 Hd1 a1 s1 dv h1 => h1 σ H1 Hd1 ls _ a1 fun lo M2 H2 Hd2 a2 s2 h2 => h2 σ H2 Hd2 ls _ a2 fun hi M3 H3 Hd3 a3 s3 h3 => by
    obtain ⟨ds, rfl, q⟩ := h3
    have s13 := (s1.trans s2).trans s3
    have dv3 := dv.up (s2.ext.trans s3.ext)
    cases dv3 with
    | tup hs ha =>
      refine hw H3 _ lo hi ds Q ⟨_, _, rfl, ex_t a3.sub hs, ha.up a3.sub, fun e => ?_, fun p hp => ?_⟩
      · refine k _ _ M3 H3 Hd3 a3 s13 (.tup hs (e ▸ cut_up ha lo hi)) q
      · obtain ⟨s4, e4, d4⟩ := tupNew a3.sub hp (cut_up ha lo hi)
        exact k _ _ M3 _ _ (a3.up s4 e4) (s13.trans s4.all) d4 q
end
end PW

set_option Elab.async false
set_option linter.all false
set_option maxRecDepth 100000
set_option maxHeartbeats 2000000
namespace PW
open PySem L2 Evl PySem.Spec PyProof.Rows

/-! ### defs that are functions of data -/
def pur (n : Nat) (dom : List D → Prop) (fn : List D → D) : FS := fun cs M R => ∃ ds, cs = ds.map C.dat ∧ ds.length = n ∧ M = [] ∧ dom ds ∧ R (fn ds) []
theorem fg_pur {P : Program} {w : World} {K : Fg} {mg : Str → Option Value} {base : Heap} {x qual : Str} {st : Stmt} {f : Addr} {fd : FuncData} {N ps : List Str} {k : Nat} {dom : List D → Prop} {fn : List D → D} (F : Fun K x qual st f fd) (sc : FnScope N ps (defScope st))
    (body : ∀ (cdv : Value) (A : Around) (outer : List Env) (s : Shared) (H : Hp) (E : XK), Room k (A.deeper (envOfC qual (defScope st) s.heap.objs.size f cdv)) → (A.deeper (envOfC qual (defScope st) s.heap.objs.size f cdv)).guards = some [] →
      ∃ t, PSs (cxOf CX0 P w K mg base N qual (defScope st) f cdv A outer s H E).nox (defBody st) t ∧
        ∀ ds, ds.length = ps.length → dom ds → WB K 0 t (slots N (ds.map C.dat)) [] { nx := fun _ _ => fn ds = .none, rt := fun d _ => d = fn ds }) : FnG P w K mg base (k + 1) f fd ps (SpF K (pur ps.length dom fn)) := by
  refine fgok F sc (fun cs M R h => ?_) (fun cdv A outer s H E hr hg => ?_)
  · obtain ⟨ds, rfl, hl, _⟩ := h
    rw [List.length_map]; exact hl
  · obtain ⟨t, d, hb⟩ := body cdv A outer s H E hr hg
    refine ⟨t, d, fun cs M R h => ?_⟩
    obtain ⟨ds, rfl, hl, rfl, hd, hR⟩ := h
    refine wb_mono (hb ds hl hd) (fun δ M' q => ?_) (fun d M' q => ?_) (fun _ _ q => q) (fun _ _ q => q)
    · show R .none _
      have q' : fn ds = .none := q
      rw [← q']; exact hR
    · have q' : d = fn ds := q
      rw [q']; exact hR
section
variable {K : Fg} {δ : Dl} {M M' : Ms} {R : D → Ms → Prop} {ts : TA} {E : XK}
theorem we_pur {n : Nat} {dom : List D → Prop} {fn : List D → D} (h : WD K ts δ M fun ds M1 => ds.length = n ∧ dom ds ∧ R (fn ds) M1) : WE K (tCall (SpF K (pur n dom fn)) [] E ts) δ M R :=
  we_call fun σ H Hd ls Q a k => h σ H Hd ls Q a fun vs ds M1 H1 Hd1 a1 s1 da q => k vs ds M1 H1 Hd1 a1 s1 da ⟨ds, rfl, q.1, rfl, q.2.1, q.2.2⟩
theorem len_ok {n : Nat} (h : Nat.ble n 100000 = true) : n ≤ sizeLine := by rw [sizeLine_eq]; have := Nat.le_of_ble_eq_true h; omega
end
/-! ### kinds -/
def dInt : D → Bool
  | .int _ => true
  | .bool _ => true
  | _ => false
def dBool : D → Bool
  | .bool _ => true
  | _ => false
def dStr : D → Bool
  | .str _ => true
  | _ => false
def dTup : D → Bool
  | .tuple _ => true
  | _ => false
def dLst : D → Bool
  | .list _ => true
  | _ => false
theorem kit_int : ∀ d : D, kitB (tyD d) "int" = some (dInt d) := fun d => by cases d <;> (simp only [tyD, dInt]; decide +kernel)
theorem kit_bool : ∀ d : D, kitB (tyD d) "bool" = some (dBool d) := fun d => by cases d <;> (simp only [tyD, dBool]; decide +kernel)
theorem kit_str : ∀ d : D, kitB (tyD d) "str" = some (dStr d) := fun d => by cases d <;> (simp only [tyD, dStr]; decide +kernel)
theorem kit_tup : ∀ d : D, kitB (tyD d) "tuple" = some (dTup d) := fun d => by cases d <;> (simp only [tyD, dTup]; decide +kernel)
theorem kit_lst : ∀ d : D, kitB (tyD d) "list" = some (dLst d) := fun d => by cases d <;> (simp only [tyD, dLst]; decide +kernel)
end PW

set_option Elab.async false
set_option linter.all false
set_option maxRecDepth 100000
set_option maxHeartbeats 2000000
namespace PW
open PySem L2 Evl PySem.Spec PyProof.Rows
section
variable {K : Fg} {n : Nat} {δ : Dl} {M M' : Ms} {R : D → Ms → Prop} {RL : List D → Ms → Prop} {RB : Bool → Ms → Prop} {P : Po} {te ta tb tc : TE} {ts tr : TA} {t u : TT} {sa sb : TS} {r r' : R2} {rc : List V → Hp → VK → Prop}
/-! ### ways by implications -/
theorem vb_if (h : WT K t δ M fun b M1 => (b = true → WB K n sa δ M1 P) ∧ (b = false → WB K n sb δ M1 P)) : WB K n (tIfS t sa sb) δ M P :=
  wb_if (wt_mono h fun b M1 q => by cases b with | true => exact q.1 rfl | false => exact q.2 rfl)
theorem vt_and (h : WT K t δ M fun b M1 => (b = true → WT K u δ M1 RB) ∧ (b = false → RB false M1)) : WT K (tAnd t u) δ M RB :=
  wt_and (wt_mono h fun b M1 q => by cases b with | true => exact q.1 rfl | false => exact q.2 rfl)
theorem vt_or (h : WT K t δ M fun b M1 => (b = true → RB true M1) ∧ (b = false → WT K u δ M1 RB)) : WT K (tOr t u) δ M RB :=
  wt_or (wt_mono h fun b M1 q => by cases b with | true => exact q.1 rfl | false => exact q.2 rfl)
theorem ve_if (h : WT K t δ M fun b M1 => (b = true → WE K ta δ M1 R) ∧ (b = false → WE K tb δ M1 R)) : WE K (tIf t ta tb) δ M R :=
  we_if (wt_mono h fun b M1 q => by cases b with | true => exact q.1 rfl | false => exact q.2 rfl)
theorem ve_and (h : WE K ta δ M fun x M1 => ∃ c, x = .bool c ∧ (c = true → WE K tb δ M1 R) ∧ (c = false → R (.bool false) M1)) : WE K (tAndV ta tb) δ M R :=
  we_andV (we_mono h fun x M1 q => by
    obtain ⟨c, e, q1, q2⟩ := q
    exact ⟨c, e, by cases c with | true => exact q1 rfl | false => exact q2 rfl⟩)
theorem ve_or (h : WE K ta δ M fun x M1 => ∃ c, x = .bool c ∧ (c = true → R (.bool true) M1) ∧ (c = false → WE K tb δ M1 R)) : WE K (tOrV ta tb) δ M R :=
  we_orV (we_mono h fun x M1 q => by
    obtain ⟨c, e, q1, q2⟩ := q
    exact ⟨c, e, by cases c with | true => exact q1 rfl | false => exact q2 rfl⟩)
theorem ve_not (h : WE K ta δ M fun x M1 => ∃ c, x = .bool c ∧ R (.bool (!c)) M1) : WE K (tNotV ta) δ M R := we_notV h
theorem wt_testB (h : WE K te δ M fun d M1 => ∃ b, d = .bool b ∧ RB b M1) : WT K (tTest te) δ M RB := wt_test h
/-- a test of a bool -/
theorem wt_truB (h : WE K te δ M fun d M1 => ∃ b, d = .bool b ∧ RB b M1) : WT K (fun σ H Q => te σ H fun x H' => ∃ k, TruV K x H' k ∧ Q k H') δ M RB :=
  wt_tru (we_mono h fun d M1 q => by
    obtain ⟨b, rfl, q⟩ := q
    exact ⟨(fun x e => nomatch e), (fun x e => nomatch e), q⟩)
/-- a pure part, once for all: te gives d and changes nothing -/
def Gv (K : Fg) (te : TE) (δ : Dl) (M : Ms) (d : D) : Prop := WE K te δ M fun d' M' => d' = d ∧ M' = M
theorem we_gv {d : D} (h : Gv K te δ M d) (q : R d M) : WE K te δ M R := we_mono h fun d' M' ⟨e1, e2⟩ => by rw [e1, e2]; exact q
theorem gv {d : D} (h : WE K te δ M fun d' M' => d' = d ∧ M' = M) : Gv K te δ M d := h
def Tv (K : Fg) (t : TT) (δ : Dl) (M : Ms) (b : Bool) : Prop := WT K t δ M fun b' M' => b' = b ∧ M' = M
theorem wt_tv {b : Bool} (h : Tv K t δ M b) (q : RB b M) : WT K t δ M RB := wt_mono h fun d' M' ⟨e1, e2⟩ => by rw [e1, e2]; exact q
end
theorem u65 {k : Nat} {A : Around} {n : Nat} (hr : Room k A) (hn : n ≤ 65 := by decide) : A.units + n < cLine := by have := hr.un; omega
theorem nox_K {CX : CXT} {P : Program} {w : World} {K : PySem.W.Frag} {mg : Str → Option Value} {base : Heap} {N : List Str} {qual : Str} {scope : Scope} {f : Addr} {cd : Value} {A : Around} {outer : List Env} {s : Shared} {H : Hp} {E : XK} : (cxOf CX P w K mg base N qual scope f cd A outer s H E).nox.K = K := rfl
theorem cxo_K {CX : CXT} {P : Program} {w : World} {K : PySem.W.Frag} {mg : Str → Option Value} {base : Heap} {N : List Str} {qual : Str} {scope : Scope} {f : Addr} {cd : Value} {A : Around} {outer : List Env} {s : Shared} {H : Hp} {E : XK} : (cxOf CX P w K mg base N qual scope f cd A outer s H E).K = K := rfl
end PW

set_option Elab.async false
set_option linter.all false
set_option maxRecDepth 100000
set_option maxHeartbeats 2000000
namespace PW
open PySem L2 Evl PySem.Spec PyProof.Rows
section
variable {K : Fg} {R : D → Prop} {RL : List D → Prop} {x y : D}
theorem od_catA {xs ys : List D} (hz : xs.length + ys.length ≤ sizeLine) (q : R (.tuple (xs ++ ys))) : OD K (rCatA K) (.tuple xs) (.tuple ys) R := fun H Hd v w Q ex dx dy k => by
  cases dx with
  | tup h1 a1 =>
    cases dy with
    | tup h2 a2 =>
      refine ⟨_, _, _, _, rfl, rfl, ex_t ex h1, ex_t ex h2, by rw [a1.length, a2.length]; exact hz, fun e => ?_, fun e e2 => ?_, fun e e2 p hp => ?_⟩
      · have : xs = [] := by have := a1.length; rw [e] at this; exact List.length_eq_zero_iff.mp this.symm
        subst this
        exact k _ _ H Hd Step.refl ex (.tup h2 a2) q
      · have : ys = [] := by have := a2.length; rw [e2] at this; exact List.length_eq_zero_iff.mp this.symm
        subst this
        rw [List.append_nil] at q
        exact k _ _ H Hd Step.refl ex (.tup h1 a1) q
      · obtain ⟨s1, e1, d1⟩ := tupNew ex hp (a1.app a2)
        exact k _ _ _ _ s1 e1 d1 q
theorem od_isB {a b : Bool} (q : R (.bool (decide (a = b)))) : OD K rIsB (.bool a) (.bool b) R := fun H Hd v w Q ex dx dy k => by
  cases dx; cases dy
  exact ⟨a, b, rfl, rfl, k _ _ H Hd Step.refl ex (.bl _) q⟩
theorem od_notB {a b : Bool} (q : R (.bool (!decide (a = b)))) : OD K rNotB (.bool a) (.bool b) R := fun H Hd v w Q ex dx dy k => by
  cases dx; cases dy
  exact ⟨a, b, rfl, rfl, k _ _ H Hd Step.refl ex (.bl _) q⟩
end
theorem cutV_whole {xs : List V} {lo hi : Option Int} (h : HT.sIx xs.length 0 lo = 0 ∧ HT.sIx xs.length xs.length hi = xs.length) : cutV xs lo hi = xs := by
  unfold cutV
  rw [h.1, h.2, List.drop_zero, Nat.sub_zero, List.take_length]
section
variable {K : Fg} {δ : Dl} {M M' : Ms} {R : D → Ms → Prop} {RL : List D → Ms → Prop} {te ta tb : TE} {tl th : TO}
/-- a slice of a tuple -/
theorem we_slA (h : WE K te δ M fun d M1 => WO K tl δ M1 fun lo M2 => WO K th δ M2 fun hi M3 => ∃ ds, d = .tuple ds ∧ R (.tuple (cutD ds lo hi)) M3) : WE K (tSl (rSlA K) te tl th) δ M R := fun σ H Hd ls Q a k =>
  h σ H Hd ls _ a fun v d M1 H1 Hd1 a1 s1 dv h1 => h1 σ H1 Hd1 ls _ a1 fun lo M2 H2 Hd2 a2 s2 h2 => h2 σ H2 Hd2 ls _ a2 fun hi M3 H3 Hd3 a3 s3 h3 => by
    obtain ⟨ds, rfl, q⟩ := h3
    have s13 := (s1.trans s2).trans s3
    have dv3 := dv.up (s2.ext.trans s3.ext)
    cases dv3 with
    | tup hs ha =>
      refine ⟨_, _, rfl, ex_t a3.sub hs, fun e => ?_, fun _ p hp => ?_⟩
      · have c := cut_up ha lo hi
        rw [cutV_whole e] at c
        exact k _ _ M3 H3 Hd3 a3 s13 (.tup hs c) q
      · obtain ⟨s4, e4, d4⟩ := tupNew a3.sub hp (cut_up ha lo hi)
        exact k _ _ M3 _ _ (a3.up s4 e4) (s13.trans s4.all) d4 q
/-- a list backwards -/
theorem wl_rev (h : WE K te δ M fun d M1 => ∃ ds, d = .list ds ∧ RL ds.reverse M1) : WL K (tRevL K te) δ M RL := fun σ H Hd ls Q a k =>
  h σ H Hd ls _ a fun v d M1 H1 Hd1 a1 s1 dv h1 => by
    obtain ⟨ds, rfl, q⟩ := h1
    cases dv with
    | lst hs ha =>
      refine ⟨_, _, rfl, ex_l a1.sub hs, fun p hp => ?_⟩
      refine k p _ _ M1 (upd H1 p _) Hd1 (a1.up (step_new hp) fun b o e => ?_) (s1.trans (step_new hp).all) ?_ ?_ (not_ls a1 hp) upd_same ha.rev q
      · have := a1.sub b o e
        rw [upd_ne (ne_of_none this hp)]; exact this
      · cases e : H p with
        | none => rfl
        | some o => exact absurd hp (s1.there p (by rw [e]; simp))
      · cases e : Hd1 p with
        | none => rfl
        | some o => rw [a1.sub p o e] at hp; cases hp
/-- 'sl'.index(x), x there -/
def rSix : V → List V → Hp → VK → Prop := fun x xs H Q => ∃ a b i rest, x = .str a ∧ xs = [.str b] ∧ Builtin.Str.occurrences a b 0 a.length 1 = i :: rest ∧ Q (.int (i : Nat)) H
theorem we_six (h : WE K ta δ M fun x M1 => ∃ a, x = .str a ∧ WE K tb δ M1 fun y M2 => ∃ b i rest, y = .str b ∧ Builtin.Str.occurrences a b 0 a.length 1 = i :: rest ∧ R (.int (i : Nat)) M2) : WE K (tM1 rSix ta tb) δ M R := fun σ H Hd ls Q a k =>
  h σ H Hd ls _ a fun v x M1 H1 Hd1 a1 s1 dv h1 => by
    obtain ⟨p, rfl, h1⟩ := h1
    cases dv
    refine ⟨⟨p, rfl⟩, h1 σ H1 Hd1 ls _ a1 fun w y M2 H2 Hd2 a2 s2 dw h2 => ?_⟩
    obtain ⟨q, i, rest, rfl, e, r⟩ := h2
    cases dw
    exact ⟨p, q, i, rest, rfl, rfl, e, k _ _ M2 H2 Hd2 a2 (s1.trans s2) (.int _) r⟩
end
end PW

set_option Elab.async false
set_option linter.all false
set_option maxRecDepth 100000
set_option maxHeartbeats 2000000
namespace PW
open PySem L2 Evl PySem.Spec PyProof.Rows
/-! ### reading what is owned -/
/-- an owned list, seen as data for the time being -/
def seen (δ : Dl) (M : Ms) : Dl := δ.map fun o => match o with
  | some (.own k) => (match M[k]? with
    | some (.lst ds) => some (.dat (.list ds))
    | _ => none)
  | x => x
theorem seen_at {δ : Dl} {M : Ms} {i : Nat} {c : C} (h : (seen δ M)[i]? = some (some c)) : (∃ d, c = .dat d ∧ δ[i]? = some (some (.dat d))) ∨ ∃ k ds, δ[i]? = some (some (.own k)) ∧ M[k]? = some (.lst ds) ∧ c = .dat (.list ds) := by
  unfold seen at h
  rw [List.getElem?_map] at h
  cases e : δ[i]? with
  | none => rw [e] at h; cases h
  | some o =>
    rw [e] at h
    simp only [Option.map_some, Option.some.injEq] at h
    cases o with
    | none => cases h
    | some x =>
      cases x with
      | dat d => simp only at h; cases h; exact .inl ⟨d, rfl, rfl⟩
      | own k =>
        simp only at h
        cases em : M[k]? with
        | none => rw [em] at h; cases h
        | some m =>
          rw [em] at h
          cases m with
          | lst ds => cases h; exact .inr ⟨k, ds, rfl, em, rfl⟩
          | dic _ => cases h
          | gone => cases h
/-- all that is owned, laid beside the data -/
def plus (H Hd : Hp) (ls : List Addr) : Hp := fun a => if a ∈ ls then H a else Hd a
section
variable {K : Fg} {δ : Dl} {M M' : Ms} {σ : L2.St} {H Hd : Hp} {ls : List Addr}
theorem plus_ex (a : Sta K δ M σ H Hd ls) : Ex Hd (plus H Hd ls) := fun x o h => by
  unfold plus
  split
  · exact a.sub x o h
  · exact h
theorem plus_sub (a : Sta K δ M σ H Hd ls) : Ex (plus H Hd ls) H := fun x o h => by
  unfold plus at h
  split at h
  · exact h
  · exact a.sub x o h
theorem sta_seen (a : Sta K δ M σ H Hd ls) : Sta K (seen δ M) [] σ H (plus H Hd ls) [] := by
  refine ⟨plus_sub a, rfl, List.nodup_nil, fun k l m h => by simp at h, by rw [a.dlen]; simp [seen], fun i d h => ?_, fun i k h => ?_⟩
  · rcases seen_at h with ⟨d', e, h1⟩ | ⟨k, ds, h1, h2, e⟩
    · cases e
      obtain ⟨v, hv, dv⟩ := a.dat i d h1
      exact ⟨v, hv, dv.up (plus_ex a)⟩
    · cases e
      obtain ⟨l, hl, hv⟩ := a.own i k h1
      obtain ⟨_, xs, hx, da⟩ := a.obj k l _ hl h2
      refine ⟨_, hv, .lst (.inl (.inl ?_)) (da.up (plus_ex a))⟩
      show plus H Hd ls l = _
      unfold plus
      rw [if_pos (List.mem_of_getElem? hl)]
      exact hx
  · rcases seen_at h with ⟨d', e, h1⟩ | ⟨k, ds, h1, h2, e⟩ <;> cases e
/-- behind a look: what was owned stands -/
theorem look_back (a : Sta K δ M σ H Hd ls) {H' Hp' : Hp} (s : Step H (plus H Hd ls) [] H' Hp') : Sta K δ M σ H' Hd ls ∧ Step H Hd ls H' Hd := by
  have keep : ∀ x o, H x = some o → H' x = some o := fun x o h => s.old x o h (by simp)
  refine ⟨⟨fun x o h => keep x o (a.sub x o h), a.mlen, a.nd, fun k l m h1 h2 => ?_, a.dlen, a.dat, a.own⟩, ⟨Ex.refl _, fun x o h _ => keep x o h, fun _ _ n => n, s.there⟩⟩
  have := a.obj k l m h1 h2
  cases m with
  | lst ds => obtain ⟨n, xs, hx, da⟩ := this; exact ⟨n, xs, keep _ _ hx, da⟩
  | dic ds => obtain ⟨n, xs, hx, hk, da⟩ := this; exact ⟨n, xs, keep _ _ hx, hk, da⟩
  | gone => exact this
theorem flat_dp {H' : Hp} {v : V} {d : D} (h : Dp K H v d) (f : flatD d = true) : Dp K H' v d := by
  cases h with
  | non => exact .non
  | bl b => exact .bl b
  | int i => exact .int i
  | str x => exact .str x
  | lst _ _ => cases f
  | tup _ _ => cases f
  | dic _ _ => cases f
theorem flat_dpa {H' : Hp} : ∀ {vs : List V} {ds : List D}, DpAll K H vs ds → ds.all flatD = true → DpAll K H' vs ds
  | [], _, h, f => by cases h; exact .nil
  | v :: vs, _, h, f => by
    cases h with
    | cons h1 h2 =>
      rw [List.all_cons, Bool.and_eq_true] at f
      exact .cons (flat_dp h1 f.1) (flat_dpa h2 f.2)
variable {R : D → Ms → Prop} {RL : List D → Ms → Prop} {RB : Bool → Ms → Prop} {te : TE} {t : TT}
theorem we_look (h : WE K te (seen δ M) [] fun d _ => flatD d = true ∧ R d M) : WE K te δ M R := fun σ H Hd ls Q a k =>
  h σ H (plus H Hd ls) [] Q (sta_seen a) fun v d M' H' Hd' a' s dv q => by
    obtain ⟨a2, s2⟩ := look_back a s
    exact k v d M H' Hd a2 s2 (flat_dp dv q.1) q.2
theorem wt_look (h : WT K t (seen δ M) [] fun b _ => RB b M) : WT K t δ M RB := fun σ H Hd ls Q a k =>
  h σ H (plus H Hd ls) [] Q (sta_seen a) fun b M' H' Hd' a' s q => by
    obtain ⟨a2, s2⟩ := look_back a s
    exact k b M H' Hd a2 s2 q
theorem wl_look (h : WL K te (seen δ M) [] fun ds _ => ds.all flatD = true ∧ RL ds M) : WL K te δ M RL := fun σ H Hd ls Q a k =>
  h σ H (plus H Hd ls) [] Q (sta_seen a) fun p xs ds M' H' Hd' a' s h0 h1 h2 h3 h4 q => by
    obtain ⟨a2, s2⟩ := look_back a s
    refine k p xs ds M H' Hd a2 s2 h0 ?_ (not_ls a h0) h3 (flat_dpa h4 q.1) q.2
    cases e : Hd p with
    | none => rfl
    | some o => rw [a.sub p o e] at h0; cases h0
/-- a tuple of flat things -/
theorem we_lookT (h : WE K te (seen δ M) [] fun d _ => ∃ ds, d = .tuple ds ∧ ds.all flatD = true ∧ R (.tuple ds) M) : WE K te δ M R := fun σ H Hd ls Q a k =>
  h σ H (plus H Hd ls) [] Q (sta_seen a) fun v d M' H' Hd' a' s dv q => by
    obtain ⟨ds, rfl, f, q⟩ := q
    obtain ⟨a2, s2⟩ := look_back a s
    cases dv with
    | tup hs ha =>
      rename_i p xs
      have fin := flat_dpa (H' := Hd) ha f
      rcases hs with hs | hs
      · -- tracked: it is new, or it stood among the data
        have hp : Hd' p ≠ none := by rcases hs with z | ⟨o, z⟩ <;> rw [z] <;> simp
        by_cases hd : Hd p = none
        · by_cases hm : p ∈ ls
          · -- an owned object is no tuple
            exfalso
            obtain ⟨j, hj, ej⟩ := List.getElem_of_mem hm
            have hjM : j < M.length := by rw [← a.mlen]; exact hj
            have ob := a.obj j p M[j] (by rw [List.getElem?_eq_getElem hj, ej]) (List.getElem?_eq_getElem hjM)
            have hpl : plus H Hd ls p = H p := by unfold plus; rw [if_pos hm]
            generalize M[j] = m at ob
            cases m with
            | lst es =>
              obtain ⟨_, ys, hy, _⟩ := ob
              have z := s.ext p _ (by rw [hpl]; exact hy)
              rcases hs with w | ⟨o, w⟩ <;> (rw [z] at w; cases w)
            | dic es =>
              obtain ⟨_, ys, hy, _⟩ := ob
              have z := s.ext p _ (by rw [hpl]; exact hy)
              rcases hs with w | ⟨o, w⟩ <;> (rw [z] at w; cases w)
            | gone => exact ob hd
          · have hpl : plus H Hd ls p = none := by unfold plus; rw [if_neg hm]; exact hd
            have hH : H p = none := by
              cases hh : H p with
              | none => rfl
              | some o => exact absurd (s.new p (by rw [hh]; simp) hpl) hp
            have ex : Ex Hd (fun b => if b = p then Hd' p else Hd b) := fun b o e => by
              have : b ≠ p := fun z => by rw [z, hd] at e; cases e
              show (if b = p then Hd' p else Hd b) = _
              rw [if_neg this]; exact e
            have sq : SqT K (fun b => if b = p then Hd' p else Hd b) p xs := by
              rcases hs with z | ⟨o, z⟩
              · exact .inl (.inl (by show (if p = p then Hd' p else Hd p) = _; rw [if_pos rfl]; exact z))
              · exact .inl (.inr ⟨o, by show (if p = p then Hd' p else Hd p) = _; rw [if_pos rfl]; exact z⟩)
            refine k (.ref p) (.tuple ds) M H' (fun b => if b = p then Hd' p else Hd b) ⟨fun b o e => ?_, a2.mlen, a2.nd, fun j l m h1 h2 => ?_, a2.dlen, fun j z hz => ?_, a2.own⟩ ⟨ex, s2.old, fun b h1 h2 => ?_, s2.there⟩ (.tup sq (flat_dpa ha f)) q
            · have e' : (if b = p then Hd' p else Hd b) = some o := e
              by_cases hb : b = p
              · rw [if_pos hb] at e'; rw [hb]; exact a'.sub p o e'
              · rw [if_neg hb] at e'; exact a2.sub b o e'
            · have hl : l ≠ p := fun z => hm (z ▸ List.mem_of_getElem? h1)
              have := a2.obj j l m h1 h2
              have nn : ∀ u, Hd l = u → (fun b => if b = p then Hd' p else Hd b) l = u := fun u e => by show (if l = p then Hd' p else Hd l) = u; rw [if_neg hl]; exact e
              cases m with
              | lst es => obtain ⟨z, ys, hy, hs⟩ := this; exact ⟨nn _ z, ys, hy, hs.up ex⟩
              | dic es => obtain ⟨z, ys, hy, hk, hs⟩ := this; exact ⟨nn _ z, ys, hy, hk, hs.up ex⟩
              | gone => exact fun z => this (by have z' : (if l = p then Hd' p else Hd l) = none := z; rw [if_neg hl] at z'; exact z')
            · obtain ⟨v, hv, dv⟩ := a2.dat j z hz
              exact ⟨v, hv, dv.up ex⟩
            · have : b ≠ p := fun z => h1 (z ▸ hH)
              show (if b = p then Hd' p else Hd b) = none
              rw [if_neg this]; exact h2
        · -- among the data
          obtain ⟨o, ho⟩ : ∃ o, Hd p = some o := by
            cases e : Hd p with
            | none => exact absurd e hd
            | some o => exact ⟨o, rfl⟩
          have z := s.ext p o (plus_ex a p o ho)
          have sq : SqT K Hd p xs := by
            rcases hs with w | ⟨ob, w⟩
            · rw [z] at w; cases w; exact .inl (.inl ho)
            · rw [z] at w; cases w; exact .inl (.inr ⟨ob, ho⟩)
          exact k (.ref p) (.tuple ds) M H' Hd a2 s2 (.tup sq fin) q
      · exact k (.ref p) (.tuple ds) M H' Hd a2 s2 (.tup (.inr hs) fin) q
end
end PW

set_option Elab.async false
set_option linter.all false
set_option maxRecDepth 100000
set_option maxHeartbeats 2000000
namespace PW
open PySem L2 Evl PySem.Spec PyProof.Rows
section
variable {K : Fg} {δ : Dl} {M M' : Ms} {R : D → Ms → Prop}
theorem we_ixO {i k : Nat} {j : Int} {ds : List D} {d : D} (ho : δ[i]? = some (some (.own k))) (hm : M[k]? = some (.lst ds)) (e : atI ds j = some d) (q : R d M) : WE K (tOp (rIx K) (tVar i) (tC (.int j))) δ M R := fun σ H Hd ls Q a kk => by
  obtain ⟨l, hl, hv⟩ := a.own i k ho
  obtain ⟨_, xs, hx, da⟩ := a.obj k l _ hl hm
  obtain ⟨u, hu, du⟩ := atI_up da e
  exact ⟨_, hv, .inl ⟨l, xs, j, u, rfl, rfl, SqL.of hx, hu, kk u d M H Hd a Step.refl du q⟩⟩
end
/-! words -/
@[simp] theorem w_s_l : ((Str.ofString "s") = (Str.ofString "l")) = False := eq_false (by decide +kernel)
@[simp] theorem w_s_turn : ((Str.ofString "s") = (Str.ofString "turn")) = False := eq_false (by decide +kernel)
@[simp] theorem w_s_stay : ((Str.ofString "s") = (Str.ofString "stay")) = False := eq_false (by decide +kernel)
@[simp] theorem w_s_none : ((Str.ofString "s") = (Str.ofString "none")) = False := eq_false (by decide +kernel)
@[simp] theorem w_s_press : ((Str.ofString "s") = (Str.ofString "press")) = False := eq_false (by decide +kernel)
@[simp] theorem w_s_held : ((Str.ofString "s") = (Str.ofString "held")) = False := eq_false (by decide +kernel)
@[simp] theorem w_l_s : ((Str.ofString "l") = (Str.ofString "s")) = False := eq_false (by decide +kernel)
@[simp] theorem w_l_turn : ((Str.ofString "l") = (Str.ofString "turn")) = False := eq_false (by decide +kernel)
@[simp] theorem w_l_stay : ((Str.ofString "l") = (Str.ofString "stay")) = False := eq_false (by decide +kernel)
@[simp] theorem w_l_none : ((Str.ofString "l") = (Str.ofString "none")) = False := eq_false (by decide +kernel)
@[simp] theorem w_l_press : ((Str.ofString "l") = (Str.ofString "press")) = False := eq_false (by decide +kernel)
@[simp] theorem w_l_held : ((Str.ofString "l") = (Str.ofString "held")) = False := eq_false (by decide +kernel)
@[simp] theorem w_turn_s : ((Str.ofString "turn") = (Str.ofString "s")) = False := eq_false (by decide +kernel)
@[simp] theorem w_turn_l : ((Str.ofString "turn") = (Str.ofString "l")) = False := eq_false (by decide +kernel)
@[simp] theorem w_turn_stay : ((Str.ofString "turn") = (Str.ofString "stay")) = False := eq_false (by decide +kernel)
@[simp] theorem w_turn_none : ((Str.ofString "turn") = (Str.ofString "none")) = False := eq_false (by decide +kernel)
@[simp] theorem w_turn_press : ((Str.ofString "turn") = (Str.ofString "press")) = False := eq_false (by decide +kernel)
@[simp] theorem w_turn_held : ((Str.ofString "turn") = (Str.ofString "held")) = False := eq_false (by decide +kernel)
@[simp] theorem w_stay_s : ((Str.ofString "stay") = (Str.ofString "s")) = False := eq_false (by decide +kernel)
@[simp] theorem w_stay_l : ((Str.ofString "stay") = (Str.ofString "l")) = False := eq_false (by decide +kernel)
@[simp] theorem w_stay_turn : ((Str.ofString "stay") = (Str.ofString "turn")) = False := eq_false (by decide +kernel)
@[simp] theorem w_stay_none : ((Str.ofString "stay") = (Str.ofString "none")) = False := eq_false (by decide +kernel)
@[simp] theorem w_stay_press : ((Str.ofString "stay") = (Str.ofString "press")) = False := eq_false (by decide +kernel)
@[simp] theorem w_stay_held : ((Str.ofString "stay") = (Str.ofString "held")) = False := eq_false (by decide +kernel)
@[simp] theorem w_none_s : ((Str.ofString "none") = (Str.ofString "s")) = False := eq_false (by decide +kernel)
@[simp] theorem w_none_l : ((Str.ofString "none") = (Str.ofString "l")) = False := eq_false (by decide +kernel)
@[simp] theorem w_none_turn : ((Str.ofString "none") = (Str.ofString "turn")) = False := eq_false (by decide +kernel)
@[simp] theorem w_none_stay : ((Str.ofString "none") = (Str.ofString "stay")) = False := eq_false (by decide +kernel)
@[simp] theorem w_none_press : ((Str.ofString "none") = (Str.ofString "press")) = False := eq_false (by decide +kernel)
@[simp] theorem w_none_held : ((Str.ofString "none") = (Str.ofString "held")) = False := eq_false (by decide +kernel)
@[simp] theorem w_press_s : ((Str.ofString "press") = (Str.ofString "s")) = False := eq_false (by decide +kernel)
@[simp] theorem w_press_l : ((Str.ofString "press") = (Str.ofString "l")) = False := eq_false (by decide +kernel)
@[simp] theorem w_press_turn : ((Str.ofString "press") = (Str.ofString "turn")) = False := eq_false (by decide +kernel)
@[simp] theorem w_press_stay : ((Str.ofString "press") = (Str.ofString "stay")) = False := eq_false (by decide +kernel)
@[simp] theorem w_press_none : ((Str.ofString "press") = (Str.ofString "none")) = False := eq_false (by decide +kernel)
@[simp] theorem w_press_held : ((Str.ofString "press") = (Str.ofString "held")) = False := eq_false (by decide +kernel)
@[simp] theorem w_held_s : ((Str.ofString "held") = (Str.ofString "s")) = False := eq_false (by decide +kernel)
@[simp] theorem w_held_l : ((Str.ofString "held") = (Str.ofString "l")) = False := eq_false (by decide +kernel)
@[simp] theorem w_held_turn : ((Str.ofString "held") = (Str.ofString "turn")) = False := eq_false (by decide +kernel)
@[simp] theorem w_held_stay : ((Str.ofString "held") = (Str.ofString "stay")) = False := eq_false (by decide +kernel)
@[simp] theorem w_held_none : ((Str.ofString "held") = (Str.ofString "none")) = False := eq_false (by decide +kernel)
@[simp] theorem w_held_press : ((Str.ofString "held") = (Str.ofString "press")) = False := eq_false (by decide +kernel)
@[simp] theorem eqv_str (a b : Str) : PyData.eqv (.str a) (.str b) = (a == b) := by simp only [PyData.eqv]
@[simp] theorem eqv_int (a b : Int) : PyData.eqv (.int a) (.int b) = (a == b) := by simp only [PyData.eqv]
@[simp] theorem eqv_bool (a b : Bool) : PyData.eqv (.bool a) (.bool b) = (a == b) := by simp only [PyData.eqv]
@[simp] theorem eqv_tuple (a b : List D) : PyData.eqv (.tuple a) (.tuple b) = PyData.eqvAll a b := by simp only [PyData.eqv]
@[simp] theorem eqv_list (a b : List D) : PyData.eqv (.list a) (.list b) = PyData.eqvAll a b := by simp only [PyData.eqv]
@[simp] theorem eqva_nil : PyData.eqvAll [] [] = true := by simp only [PyData.eqvAll]
@[simp] theorem eqva_cons (a b : D) (x y : List D) : PyData.eqvAll (a :: x) (b :: y) = (PyData.eqv a b && PyData.eqvAll x y) := by simp only [PyData.eqvAll]
@[simp] theorem eqva_nc (b : D) (y : List D) : PyData.eqvAll [] (b :: y) = false := by simp only [PyData.eqvAll]
@[simp] theorem eqva_cn (b : D) (y : List D) : PyData.eqvAll (b :: y) [] = false := by simp only [PyData.eqvAll]
end PW

set_option Elab.async false
set_option linter.all false
set_option maxRecDepth 100000
set_option maxHeartbeats 2000000
namespace PW
open PySem L2 Evl PySem.Spec PyProof.Rows
/-! ### defs that make a fresh list -/
abbrev FL := List D → (List D → Prop) → Prop
def SpL (K : Fg) (S : FL) : Sp := fun vs H Q _ => ∃ Hd ds R, Ex Hd H ∧ DpAll K Hd vs ds ∧ S ds R ∧
  ∀ p xs es H' Hd', Ex Hd' H' → Step H Hd [] H' Hd' → H p = none → Hd' p = none → H' p = some (.lst xs) → DpAll K Hd' xs es → R es → Q (.ref p) H'
def WBL (K : Fg) (t : TS) (δ : Dl) (M : Ms) (RL : List D → Prop) : Prop :=
  ∀ (e : Ent) (σ : L2.St) (H Hd : Hp) (ls : List Addr) (W : Ends), e.ls = [] → Run K e δ M σ H Hd ls →
    (∀ p xs es H' Hd', Ex Hd' H' → Step e.H e.Hd e.ls H' Hd' → e.H p = none → Hd' p = none → H' p = some (.lst xs) → DpAll K Hd' xs es → RL es → W.rt (.ref p) H') → t W σ H
section
variable {K : Fg} {δ : Dl} {M M' : Ms} {RL : List D → Ms → Prop} {te : TE} {ts : TA} {E : XK} {S : FL} {t u : TS} {RR : List D → Prop}
theorem wl_call (h : WD K ts δ M fun ds M1 => S ds fun es => RL es M1) : WL K (tCall (SpL K S) [] E ts) δ M RL := fun σ H Hd ls Q a k =>
  h σ H Hd ls _ a fun vs ds M1 H1 Hd1 a1 s1 da h1 => by
    rw [List.append_nil]
    refine ⟨Hd1, ds, _, a1.sub, da, h1, fun p xs es H2 Hd2 x2 s2 hp hd hx de q => ?_⟩
    refine k p xs es M1 H2 Hd2 (a1.up s2 x2) (s1.trans s2.all) ?_ hd (not_ls a1 hp) hx de q
    cases e : H p with
    | none => rfl
    | some o => exact absurd hp (s1.there p (by rw [e]; simp))
theorem wbl_ret (h : WL K te δ M fun ds _ => RR ds) : WBL K (tRet te) δ M RR := fun e σ H Hd ls W hn r k =>
  h σ H Hd ls _ r.sta fun p xs ds M1 H1 Hd1 a1 s1 h0 h2 h3 h4 h5 q => by
    have r1 := r.go a1 s1
    refine k p xs ds H1 Hd1 a1.sub r1.step ?_ h2 h4 h5 q
    cases e0 : e.H p with
    | none => rfl
    | some o => exact absurd h0 (r.step.there p (by rw [e0]; simp))
theorem wbl_seq (h : WB K 0 t δ M { nx := fun δ' M' => WBL K u δ' M' RR, rt := fun _ _ => False }) : WBL K (tSeq t u) δ M RR := fun e σ H Hd ls W hn r k =>
  h e σ H Hd ls { W with nx := u W } (by rw [hn]; rfl) r (fun δ' M' σ' H' Hd' ls' r' x' p' h' => h' e σ' H' Hd' ls' W hn r' k) (fun _ _ _ _ _ _ _ _ _ _ _ _ q => q.elim) (fun _ _ _ _ _ _ _ _ _ q => q.elim) (fun _ _ _ _ _ _ _ _ _ q => q.elim)
end
theorem fg_lst {P : Program} {w : World} {K : Fg} {mg : Str → Option Value} {base : Heap} {x qual : Str} {st : Stmt} {f : Addr} {fd : FuncData} {N ps : List Str} {k : Nat} {S : FL} (F : Fun K x qual st f fd) (sc : FnScope N ps (defScope st)) (len : ∀ ds R, S ds R → ds.length = ps.length)
    (hbody : ∀ (cdv : Value) (A : Around) (outer : List Env) (s : Shared) (H : Hp) (E : XK), Room k (A.deeper (envOfC qual (defScope st) s.heap.objs.size f cdv)) → (A.deeper (envOfC qual (defScope st) s.heap.objs.size f cdv)).guards = some [] →
      ∃ t, PSs (cxOf CX0 P w K mg base N qual (defScope st) f cdv A outer s H E).nox (defBody st) t ∧
        ∀ ds R, S ds R → WBL K t (slots N (ds.map C.dat)) [] R) : FnG P w K mg base (k + 1) f fd ps (SpL K S) := by
  refine fng F sc (fun vs H Q E h => ?_) (fun cdv A outer s H vs Q E hr hg h => ?_)
  · obtain ⟨Hd, ds, R, _, da, hs, _⟩ := h
    rw [da.length]; exact len ds R hs
  · obtain ⟨t, d, hb⟩ := hbody cdv A outer s H E hr hg
    refine ⟨t, d, ?_⟩
    obtain ⟨Hd, ds, R, sub, da, hs, hq⟩ := h
    have a : Arg K H Hd [] vs (ds.map C.dat) [] := ⟨sub, rfl, List.nodup_nil, fun k l m h => by simp at h, vcs_dat da⟩
    refine hb ds R hs ⟨H, Hd, []⟩ (L2.start N vs) H Hd [] _ rfl ⟨sta_start N a, Step.refl, List.prefix_refl _, fun k l h1 h2 => by simp at h1⟩ fun p xs es H' Hd' x2 s2 h0 h1 h2 h3 q => ?_
    exact hq p xs es H' Hd' x2 s2 h0 h1 h2 h3 q
end PW
namespace PW
open PySem L2 Evl PySem.Spec PyProof.Rows
section
variable {K : Fg} {δ : Dl} {M M' : Ms} {RL : List D → Ms → Prop} {R : D → Prop} {te : TE} {g : TG} {vs : List Nat} {d : D} {r acc : List D}
theorem comp_yes (h : WC K g vs d δ M fun δ1 => WE K te δ1 M fun y M2 => acc.length < sizeLine ∧ comp K g tYes te vs r δ M2 (acc ++ [y]) RL) : comp K g tYes te vs (d :: r) δ M acc RL :=
  fun σ H Hd ls v Q a dv k => h σ H Hd ls v Q a dv fun δ' σ' a' l' j' q => k δ' σ' a' l' j' (wt_yes q)
theorem comp_nil {tt : TT} (h : RL acc M) : comp K g tt te vs [] δ M acc RL := h
theorem atI_at {α : Type} {xs : List α} {z : Int} (h0 : 0 ≤ z) (h1 : z < xs.length) : ∃ x, x ∈ xs ∧ atI xs z = some x := by
  have hn : z.toNat < xs.length := by omega
  refine ⟨xs[z.toNat], List.getElem_mem hn, ?_⟩
  unfold atI ixN
  rw [if_pos h0, if_pos h1]
  simp [hn]
/-- any of a list's items -/
theorem od_ixA {ds : List D} {z : Int} (h0 : 0 ≤ z) (h1 : z < ds.length) (q : ∀ d, d ∈ ds → R d) : OD K (rIx K) (.list ds) (.int z) R := by
  obtain ⟨x, hx, e⟩ := atI_at h0 h1
  exact od_ix_l e (q x hx)
end
end PW
namespace PW
open PySem L2 Evl PySem.Spec PyProof.Rows
theorem wd_mono {K : Fg} {δ : Dl} {M : Ms} {ts : TA} {R R' : List D → Ms → Prop} (h : WD K ts δ M R) (hr : ∀ d M, R d M → R' d M) : WD K ts δ M R' := fun σ H Hd ls Q a k => h σ H Hd ls Q a fun v d M' H' Hd' a' s dv q => k v d M' H' Hd' a' s dv (hr _ _ q)
end PW
namespace PW
open PySem L2 Evl PySem.Spec PyProof.Rows
theorem wb_par {K : Fg} {n : Nat} {δ : Dl} {M : Ms} {P : Po} {ta : TA} {i j : Nat} (h : WD K ta δ M fun ds M1 => ∃ x y, ds = [x, y] ∧ P.nx ((δ.set i (some (.dat x))).set j (some (.dat y))) M1) : WB K n (tPar i j ta) δ M P := fun e σ H Hd ls W hn r k1 k2 k3 k4 =>
  h σ H Hd ls _ r.sta fun vs ds M1 H1 Hd1 a1 s1 da q => by
    obtain ⟨x, y, rfl, q⟩ := q
    cases da with
    | cons d1 d2 =>
      cases d2 with
      | cons d2 d3 =>
        cases d3
        have r1 := r.go a1 s1
        exact ⟨_, _, rfl, k1 _ _ _ H1 Hd1 ls ⟨(a1.put d1).put d2, r1.step, r1.pre, r1.loc⟩ s1.ext (List.prefix_refl _) q⟩
end PW
namespace PW
open PySem L2 Evl PySem.Spec PyProof.Rows
theorem wb_cut {K : Fg} {n : Nat} {δ : Dl} {M : Ms} {P : Po} {t : TS} (Mid : Dl → Ms → Prop) (h1 : WB K n t δ M { P with nx := Mid }) (h2 : ∀ δ M, Mid δ M → P.nx δ M) : WB K n t δ M P :=
  wb_mono h1 (fun δ M q => h2 δ M q) (fun _ _ q => q) (fun _ _ q => q) (fun _ _ q => q)
theorem lt_ok {n : Nat} (h : Nat.ble n 100000 = true) : n < sizeLine := by rw [sizeLine_eq]; have := Nat.le_of_ble_eq_true h; omega
end PW
namespace PW
open PySem L2 Evl PySem.Spec PyProof.Rows
theorem od_ixW {K : Fg} {R : D → Prop} (ws : List Str) {z : Int} (h0 : 0 ≤ z) (h1 : z < ws.length) (q : ∀ x, x ∈ ws → R (.str x)) : OD K (rIx K) (.list (ws.map .str)) (.int z) R :=
  od_ixA h0 (by simpa using h1) fun d hd => by
    obtain ⟨x, hx, rfl⟩ := List.mem_map.mp hd
    exact q x hx
theorem od_ixI {K : Fg} {R : D → Prop} (ws : List Int) {z : Int} (h0 : 0 ≤ z) (h1 : z < ws.length) (q : ∀ x, x ∈ ws → R (.int x)) : OD K (rIx K) (.list (ws.map .int)) (.int z) R :=
  od_ixA h0 (by simpa using h1) fun d hd => by
    obtain ⟨x, hx, rfl⟩ := List.mem_map.mp hd
    exact q x hx
end PW

set_option Elab.async false
set_option linter.all false
set_option maxRecDepth 100000
set_option maxHeartbeats 2000000
namespace PW
open PySem L2 Evl PySem.Spec PyProof.Rows
/-! ### a display of words, looked up at once -/
theorem pairs_con {σ : L2.St} {H : Hp} (ws : List (Str × Str)) : ∀ {Q : List (V × V) → Hp → Prop}, Q (ws.map fun p => (V.str p.1, V.str p.2)) H → tPairs (ws.map fun p => (tC (V.str p.1), tC (V.str p.2))) σ H Q := by
  induction ws with
  | nil => intro Q h; exact h
  | cons w r ih => intro Q h; exact ih (Q := fun ps H3 => Q ((V.str w.1, V.str w.2) :: ps) H3) h
section
variable {K : Fg} {δ : Dl} {M : Ms} {R : D → Ms → Prop} {ty : TE}
theorem we_disp (ws : List (Str × Str)) (hw : ws.length ≤ 15) (h : WE K ty δ M fun y M1 => ∃ a b, y = .str a ∧ valV (mergeK [] (ws.map fun p => ((.inr p.1 : Key), V.str p.2))) (.inr a) = some (.str b) ∧ R (.str b) M1) :
    WE K (tDGet (tDisp (ws.map fun p => (tC (V.str p.1), tC (V.str p.2)))) ty) δ M R := fun σ H Hd ls Q a k => by
  show ∀ p, H p = none → _
  intro p hp
  refine pairs_con ws ?_
  refine ⟨upd_same, ws.map fun p => ((.inr p.1 : Key), V.str p.2), by rw [List.map_map]; rfl, by rw [List.length_map]; exact hw, ?_⟩
  rw [upd_upd]
  have sub1 : Ex Hd (upd H p (.dK (mergeK [] (ws.map fun p => ((.inr p.1 : Key), V.str p.2))))) := fun b o e => by
    have := a.sub b o e
    rw [upd_ne (ne_of_none this hp)]; exact this
  have a1 := a.up (step_new (o := .dK (mergeK [] (ws.map fun p => ((.inr p.1 : Key), V.str p.2)))) hp) sub1
  refine h σ _ Hd ls _ a1 fun w y M1 H1 Hd1 a2 s2 dw h1 => ?_
  obtain ⟨x, b, rfl, e, q⟩ := h1
  cases dw
  refine ⟨p, .str b, rfl, ?_, k _ _ M1 H1 Hd1 a2 ((step_new hp).all.trans s2) (.str _) q⟩
  have := s2.old p _ upd_same (not_ls a hp)
  rw [← e]
  exact DGet.k (k := .inr x) this
end
end PW
namespace PW
open PySem L2 Evl PySem.Spec PyProof.Rows
theorem ixK {X : Cx} {K : Fg} (h : X.K = K) : IxR X (rIx K) := h ▸ ix_seq
end PW
namespace PW
open PySem L2 Evl PySem.Spec PyProof.Rows
theorem comp_if {K : Fg} {δ : Dl} {M : Ms} {RL : List D → Ms → Prop} {tt : TT} {te : TE} {g : TG} {vs : List Nat} {d : D} {r acc : List D}
    (h : WC K g vs d δ M fun δ1 => WT K tt δ1 M fun b M1 => (b = true → WE K te δ1 M1 fun y M2 => acc.length < sizeLine ∧ comp K g tt te vs r δ M2 (acc ++ [y]) RL) ∧ (b = false → comp K g tt te vs r δ M1 acc RL)) : comp K g tt te vs (d :: r) δ M acc RL :=
  fun σ H Hd ls v Q a dv k => h σ H Hd ls v Q a dv fun δ' σ' a' l' j' q => k δ' σ' a' l' j' (wt_mono q fun b M1 q => by cases b with | true => exact q.1 rfl | false => exact q.2 rfl)
end PW

set_option Elab.async false
set_option linter.all false
set_option maxRecDepth 100000
set_option maxHeartbeats 2000000
namespace PW
open PySem L2 Evl PySem.Spec PyProof.Rows PySem.W
/-! ### max and min of a tuple of ints -/
def rMaxT (K : Fg) : List V → Hp → VK → Prop := fun vs H Q => ∃ (a : Addr) (n : Int) (ns : List Int), vs = [V.ref a] ∧ SqT K H a ((n :: ns).map V.int) ∧ Q (.int (ns.foldl max n)) H
theorem reads_ints {h : Heap} {its : List Value} {ns : List Int} (r : IntsAre its ns) : ReadsAll h its (ns.map .int) [] := by
  induction r with
  | nil => exact .nil
  | cons n t _ ih => exact .cons (as := []) (.int n t) ih
theorem alike_intsT (ns : List Int) : AlikeAll (ns.map .int) := by
  refine ⟨fun x hx y hy => ?_, fun x hx => ?_⟩
  · obtain ⟨a, _, rfl⟩ := List.mem_map.mp hx
    obtain ⟨b, _, rfl⟩ := List.mem_map.mp hy
    rfl
  · obtain ⟨a, _, rfl⟩ := List.mem_map.mp hx
    exact fun z => nomatch z
theorem depth_ints (ns : List Int) : PyData.depthAll (ns.map .int) ≤ 1 := by
  induction ns with
  | nil => simp [PyData.depthAll]
  | cons n r ih => simp only [List.map, PyData.depthAll, PyData.depth]; omega
theorem call_maxT {X : Cx} (hc : X.calm = true) (hu : X.A.units + 65 < cLine) : CallR X (.builtin "max") (rMaxT X.K) := by
  intro pins s σ H vs us Q I r h
  obtain ⟨a, n, ns, rfl, hs, q⟩ := h
  obtain ⟨its, rv, hl, _⟩ := I.tuple hs
  rw [Vals.ref1 r]
  have hd := depth_ints (n :: ns)
  refine max_tuple_data (I.ok.hd hc) (let ⟨o, e, c, n, d⟩ := hl; ⟨o, e, c, n, d⟩) (x := .int n) (xs := ns.map .int) (reads_ints rv.ints) (alike_intsT (n :: ns)) ?_ fun i v h' tk bs hv hr hk => ?_
  · have : PyData.depthAll (PyData.int n :: ns.map .int) ≤ 1 := hd
    omega
  · rw [maxD_ints] at hr
    cases hr
    exact ⟨.int _, H, I.kept hk, ⟨_, rfl⟩, q⟩
end PW
namespace PW
open PySem L2 Evl PySem.Spec PyProof.Rows PySem.W
def rMinT (K : Fg) : List V → Hp → VK → Prop := fun vs H Q => ∃ (a : Addr) (n : Int) (ns : List Int), vs = [V.ref a] ∧ SqT K H a ((n :: ns).map V.int) ∧ Q (.int (ns.foldl min n)) H
theorem call_minT {X : Cx} (hc : X.calm = true) (hu : X.A.units + 65 < cLine) : CallR X (.builtin "min") (rMinT X.K) := by
  intro pins s σ H vs us Q I r h
  obtain ⟨a, n, ns, rfl, hs, q⟩ := h
  obtain ⟨its, rv, hl, _⟩ := I.tuple hs
  rw [Vals.ref1 r]
  have hd := depth_ints (n :: ns)
  refine min_tuple_data (I.ok.hd hc) (let ⟨o, e, c, n, d⟩ := hl; ⟨o, e, c, n, d⟩) (x := .int n) (xs := ns.map .int) (reads_ints rv.ints) (alike_intsT (n :: ns)) ?_ fun i v h' tk bs hv hr hk => ?_
  · have : PyData.depthAll (PyData.int n :: ns.map .int) ≤ 1 := hd
    omega
  · rw [minD_ints] at hr
    cases hr
    exact ⟨.int _, H, I.kept hk, ⟨_, rfl⟩, q⟩
section
variable {K : Fg} {R : D → Prop}
theorem cd_maxT {n : Int} {ns : List Int} (q : R (.int (ns.foldl max n))) : CD K (rMaxT K) [.tuple ((n :: ns).map .int)] R := fun H Hd vs Q ex da k => by
  cases da with
  | cons d1 d2 => cases d2; cases d1 with | tup hs ha => exact ⟨_, n, ns, rfl, by rw [← dpa_map_int (ns := n :: ns) ha]; exact ex_t ex hs, k _ _ H Hd Step.refl ex (.int _) q⟩
theorem cd_minT {n : Int} {ns : List Int} (q : R (.int (ns.foldl min n))) : CD K (rMinT K) [.tuple ((n :: ns).map .int)] R := fun H Hd vs Q ex da k => by
  cases da with
  | cons d1 d2 => cases d2; cases d1 with | tup hs ha => exact ⟨_, n, ns, rfl, by rw [← dpa_map_int (ns := n :: ns) ha]; exact ex_t ex hs, k _ _ H Hd Step.refl ex (.int _) q⟩
end
end PW
namespace PW
open PySem L2 Evl PySem.Spec PyProof.Rows PySem.W
theorem we_negC {K : Fg} {δ : Dl} {M : Ms} {R : D → Ms → Prop} {i : Int} (q : R (.int (-i)) M) : WE K (tUn (rU fun i => V.int (-i)) (tC (V.int i))) δ M R := we_un (we_int (we_neg q))
end PW

set_option Elab.async false
set_option linter.all false
set_option maxRecDepth 100000
set_option maxHeartbeats 2000000
namespace PW
open PySem L2 Evl PySem.Spec PyProof.Rows
theorem pairs_lf {σ : L2.St} {H : Hp} (ws : List (Str × D)) : ∀ {Q : List (V × V) → Hp → Prop}, Q (ws.map fun p => (V.str p.1, lfV p.2)) H → tPairs (ws.map fun p => (tC (V.str p.1), tC (lfV p.2))) σ H Q := by
  induction ws with
  | nil => intro Q h; exact h
  | cons w r ih => intro Q h; exact ih (Q := fun ps H3 => Q ((V.str w.1, lfV w.2) :: ps) H3) h
section
variable {K : Fg} {δ : Dl} {M : Ms} {R : D → Ms → Prop}
/-- a display of a dict of texts to leaves, as data -/
theorem we_dicD (ws : List (Str × D)) (hw : ws.length ≤ 15) (hl : (ws.all fun p => lfD p.2) = true) (hm : mergeK [] (ws.map fun p => ((.inr p.1 : Key), lfV p.2)) = ws.map fun p => ((.inr p.1 : Key), lfV p.2)) (h : R (.dict (ws.map fun p => (PyData.str p.1, p.2))) M) :
    WE K (tDisp (ws.map fun p => (tC (V.str p.1), tC (lfV p.2)))) δ M R := fun σ H Hd ls Q a k => by
  show ∀ p, H p = none → _
  intro p hp
  refine pairs_lf ws ?_
  refine ⟨upd_same, ws.map fun p => ((.inr p.1 : Key), lfV p.2), by rw [List.map_map]; rfl, by rw [List.length_map]; exact hw, ?_⟩
  rw [upd_upd, hm]
  have hd : Hd p = none := by
    cases e : Hd p with
    | none => rfl
    | some o => rw [a.sub p o e] at hp; cases hp
  have ex : Ex Hd (upd Hd p (.dK (ws.map fun p => ((.inr p.1 : Key), lfV p.2)))) := Ex.new hd
  have st : Step H Hd [] (upd H p (.dK (ws.map fun p => ((.inr p.1 : Key), lfV p.2)))) (upd Hd p (.dK (ws.map fun p => ((.inr p.1 : Key), lfV p.2)))) := ⟨ex, (step_new hp (Hd := Hd)).old, fun b h1 h2 => by
    have : b ≠ p := fun z => h1 (z ▸ hp)
    rw [upd_ne this]; exact h2, (step_new hp (Hd := Hd)).there⟩
  refine k (.ref p) _ M _ _ (a.up st fun b o e => ?_) st.all (.dic rfl (.inl upd_same) hl) h
  by_cases e' : b = p
  · subst e'; rw [upd_same] at e; cases e; exact upd_same
  · rw [upd_ne e'] at e; rw [upd_ne e']; exact a.sub b o e
end
end PW

set_option Elab.async false
set_option linter.all false
set_option maxRecDepth 100000
set_option maxHeartbeats 2000000
/-! ### a tuple of seven items, the last one first -/
namespace PW
open PySem PySem.Spec PyProof.Rows L2 HT
section
variable {prog : Program} {w : World} {A : Around} {E : Value → Shared → Prop} {s : Shared}
theorem sliceBack7 {sl : Addr} {vs : Value} {Q : Int × Int × Nat → Shared → Prop} (hs : s.heap.IsSliceOf sl .none .none vs) (ps : IsPart vs (some (-1)))
    (h : Q (6, -1, 7) s) : wpAny (model prog w) A (Builtin.Slice.sliceApplied (.ref sl) (pure (7 : Int))) Q E s := by
  obtain ⟨os, hos, hcs, hds⟩ := id hs
  unfold Builtin.Slice.sliceApplied Builtin.Slice.sliceFields
  refine wpAny_bind (wpAny_bind (wpAny_field hos hds (x := .none) rfl (wpAny_bind (wpAny_field hos hds (x := .none) rfl (wpAny_bind (wpAny_field hos hds (x := vs) rfl (wpAny_pure ?_)))))))
  refine wpAny_bind (slicePart_ ps ?_)
  show wpAny _ _ (if ((-1 : Int) == 0) = true then _ else _) _ _ s
  rw [if_neg (by decide)]
  refine wpAny_bind (slicePart_ .none (wpAny_bind (slicePart_ .none (wpAny_bind (wpAny_pure ?_)))))
  show wpAny _ _ (match Builtin.Slice.sliceAdjust none none (-1) (7 : Int) with | (lo, hi) => pure (lo, (-1 : Int), Builtin.Slice.slicePlaces lo hi (-1))) _ _ s
  rw [show Builtin.Slice.sliceAdjust none none (-1) (7 : Int) = (6, -1) by decide]
  exact wpAny_pure h
theorem getItem_back7 {t sl : Addr} {x1 x2 x3 x4 x5 x6 x7 : Value} {vs : Value} {Q : Value → Shared → Prop} (ht : IsTup s.heap t #[x1, x2, x3, x4, x5, x6, x7]) (hs : s.heap.IsSliceOf sl .none .none vs) (ps : IsPart vs (some (-1)))
    (h : Q (.ref s.heap.objs.size) { s with heap := s.heap.push { cls := .type "tuple", data := .seq #[x7, x6, x5, x4, x3, x2, x1] } }) : wpAny (model prog w) A (getItem (.ref t) (.ref sl)) Q E s := by
  have htake : sizeOk (.seq #[x7, x6, x5, x4, x3, x2, x1]) := by
    show (7 : Nat) ≤ sizeLine
    rw [sizeLine_eq]; decide
  obtain ⟨os, hos, hcs, hds⟩ := id hs
  have hTs : s.TypeIs (.ref sl) "slice" := ⟨os, hos, hcs⟩
  unfold getItem
  try with_reducible refine wpAny_holding ?_
  first | refine wpAny_bind (wpAny_pure ?_) | skip
  refine wpAny_bind (wpAny_sequenceKey ht.typeIs (by decide) ?_)
  refine wpAny_bind (wpAny_callSpecial?_slot (name := Str.ofString "__getitem__") ht.typeIs PyProof.Rows.slot_tuple_getitem
    (wpAny_call_entry PyProof.Rows.slot_tuple_getitem ht.typeIs entry_tuple_getitem ?_ (args_tuple_getitem _ _)))
  show wpAny _ _ (Builtin.Tuple.tupleItemsOf (.ref t) >>= _) _ _ s
  refine wpAny_bind (tupleItemsOf_ ht ?_)
  refine wpAny_bind (wpAny_typeOf hTs ?_)
  rw [if_pos (by decide)]
  refine wpAny_bind (sliceBack7 hs ps ?_)
  show wpAny _ _ (if ((6 : Int) == 0 && (-1 : Int) == 1 && (7 : Nat) == 7) = true then _ else _) _ _ s
  rw [if_neg (by decide)]
  first
    | exact wpAny_bind (m := Builtin.Tuple.tupleExact _) (wpAny_newObj_type (wpAny_pure ⟨_, rfl, wpAny_pure h⟩) htake)
    | exact wpAny_bind (m := Builtin.Tuple.tupleExact _) (wpAny_newObj_type (wpAny_bind (wpAny_pure (wpAny_pure ⟨_, rfl, wpAny_pure h⟩))) htake)
    | exact wpAny_bind (wpAny_bind (m := Builtin.Tuple.tupleExact _) (wpAny_newObj_type (wpAny_pure (wpAny_pure ⟨_, rfl, wpAny_pure h⟩)) htake))
    | exact wpAny_bind (wpAny_bind (m := Builtin.Tuple.tupleExact _) (wpAny_newObj_type (wpAny_pure ⟨_, rfl, wpAny_pure h⟩) htake))
end
end PW

set_option Elab.async false
set_option linter.all false
set_option maxRecDepth 100000
set_option maxHeartbeats 2000000
namespace PW
open PySem PySem.Spec PyProof.Rows L2 HT Evl
/-- xs[::-1] of a tuple of seven items -/
def tRevT (K : Fg) (te : TE) : TE := fun σ H Q => te σ H fun x H1 => ∃ a x1 x2 x3 x4 x5 x6 x7, x = .ref a ∧ SqT K H1 a [x1, x2, x3, x4, x5, x6, x7] ∧ ∀ p, H1 p = none → Q (.ref p) (upd H1 p (.tup [x7, x6, x5, x4, x3, x2, x1]))
section
variable {X : Cx}
theorem pe_revT {e : Expr} {te : TE} {k : Nat} {p1 p2 p3 pos : Pos} (he : PE X e te) : PE X (.Subscript e (.Slice none none (some (.UnaryOp .USub (.Constant (.int 1) k p1) p2)) p3) pos) (tRevT X.K te) := by
  refine ⟨fun pins s σ H Q I h => ?_⟩
  refine Subscript_ (thn (he.run pins s σ H _ I h) fun v s1 ⟨x, H1, I1, r1, q1⟩ => ?_)
  obtain ⟨a, x1, x2, x3, x4, x5, x6, x7, ex, hx, q⟩ := q1
  subst ex
  cases r1
  have hst : PO X (some (.UnaryOp .USub (.Constant (.int 1) k p1) p2)) (tPart (tUn (rU fun i => .int (-i)) (tC (.int 1)))) := po_some (pe_un un_neg pe_int)
  refine wpAny_Slice (thn (po_none.run pins s1 σ H1 (fun o H2 => o = none ∧ H2 = H1) I1 ⟨rfl, rfl⟩) fun vl s2 ⟨l, H2, I2, pl, el, e2⟩ => ?_)
  subst el e2
  refine thn (po_none.run pins s2 σ H2 (fun o H3 => o = none ∧ H3 = H2) I2 ⟨rfl, rfl⟩) fun vu s3 ⟨u, H3, I3, pu, eu, e3⟩ => ?_
  subst eu e3
  refine thn (hst.run pins s3 σ H3 (fun o H4 => o = some (-1) ∧ H4 = H3) I3 ⟨1, rfl, -1, rfl, rfl, rfl⟩) fun vs s4 ⟨o, H4, I4, ps, eo, e4⟩ => ?_
  subst eo e4
  cases pl
  cases pu
  have I5 : Inv X pins σ H4 { s4 with heap := s4.heap.push { cls := .type "slice", data := .fields #[.none, .none, vs] } } := I4.kept (t' := s4.toks) fun b ob q => Heap.get?_push_of_some _ q
  obtain ⟨its, r, ht, hz⟩ := I5.tuple hx
  cases r with
  | cons c1 r => cases r with
    | cons c2 r => cases r with
      | cons c3 r => cases r with
        | cons c4 r => cases r with
          | cons c5 r => cases r with
            | cons c6 r => cases r with
              | cons c7 r =>
                cases r
                show wpAny (model X.prog X.w) X.A (subscriptTail e (.Slice none none (some (.UnaryOp .USub (.Constant (.int 1) k p1) p2)) p3) (.ref a) (.ref s4.heap.objs.size)) (EP X pins σ Q) X.xe { s4 with heap := s4.heap.push { cls := .type "slice", data := .fields #[.none, .none, vs] } }
                refine tail_any (ops := [.ref a, .ref s4.heap.objs.size]) ht.typeIs (PyProof.Rows.slot_tuple_getitem.lookup) ?_ (by with_unfolding_all rfl)
                refine getItem_back7 ht (Heap.IsSliceOf.new _ .none .none vs) ps ?_
                refine ⟨.ref _, _, I5.laid (t' := s4.toks) (o := .tup [x7, x6, x5, x4, x3, x2, x1]) (fun b ob q => Heap.get?_push_of_some _ q) (Nat.le_refl _) ?_, rfl, q _ (I5.hok.fresh (Nat.le_refl _))⟩
                exact ⟨hz, _, .cons c7 (.cons c6 (.cons c5 (.cons c4 (.cons c3 (.cons c2 (.cons c1 .nil)))))), ⟨_, Heap.get?_push_size _ rfl, rfl, _, rfl⟩⟩
/-- != of two lists of unlike lengths -/
def rNeE (K : Fg) : R2 := fun x y H Q => ∃ a b xs ys, x = .ref a ∧ y = .ref b ∧ SqL K H a xs ∧ SqL K H b ys ∧ xs.length ≠ ys.length ∧ Q (.bl true) H
theorem op_neE (hu : X.A.units + 64 < cLine) : OpR X (compareOp .NotEq) (rNeE X.K) := by
  intro pins s σ H x y v u Q I rx ry h
  obtain ⟨a, b, xs, ys, rfl, rfl, ha, hb, hn, q⟩ := h
  cases rx
  cases ry
  obtain ⟨its, r1, l1, _⟩ := I.list ha
  obtain ⟨its2, r2, l2, _⟩ := I.list hb
  have e1 := r1.length
  have e2 := r2.length
  show wpAny _ _ (richCompare .NotEq (.ref a) (.ref b)) _ _ _
  refine PySem.SeqAt.RcNeAt.lists_lengths l1.isList l2.isList (by simp only [List.size_toArray]; simp; omega) (by omega) X.prog X.w _ _ ⟨.bl _, H, I, rfl, q⟩
end
section
variable {K : Fg} {δ : Dl} {M : Ms} {R : D → Ms → Prop} {te : TE}
theorem we_revT (h : WE K te δ M fun d M1 => ∃ a b c e f g i, d = .tuple [a, b, c, e, f, g, i] ∧ R (.tuple [i, g, f, e, c, b, a]) M1) : WE K (tRevT K te) δ M R := fun σ H Hd ls Q a k =>
  h σ H Hd ls _ a fun v d M1 H1 Hd1 a1 s1 dv h1 => by
    obtain ⟨d1, d2, d3, d4, d5, d6, d7, rfl, q⟩ := h1
    cases dv with
    | tup hs ha =>
      cases ha with
      | cons g1 ha => cases ha with
        | cons g2 ha => cases ha with
          | cons g3 ha => cases ha with
            | cons g4 ha => cases ha with
              | cons g5 ha => cases ha with
                | cons g6 ha => cases ha with
                  | cons g7 ha =>
                    cases ha
                    refine ⟨_, _, _, _, _, _, _, _, rfl, ex_t a1.sub hs, fun p hp => ?_⟩
                    obtain ⟨st, ex2, dn⟩ := tupNew (Hd := Hd1) a1.sub hp (.cons g7 (.cons g6 (.cons g5 (.cons g4 (.cons g3 (.cons g2 (.cons g1 .nil)))))))
                    exact k _ _ M1 _ _ (a1.up st ex2) (s1.trans st.all) dn q
theorem od_neE {xs ys : List D} {R : D → Prop} (hn : xs.length ≠ ys.length) (q : R (.bool true)) : OD K (rNeE K) (.list xs) (.list ys) R := fun H Hd v w Q ex dx dy k => by
  cases dx with
  | lst h1 a1 =>
    cases dy with
    | lst h2 a2 => exact ⟨_, _, _, _, rfl, rfl, ex_l ex h1, ex_l ex h2, by rw [a1.length, a2.length]; exact hn, k _ _ H Hd Step.refl ex (.bl _) q⟩
end
end PW

set_option Elab.async false
set_option linter.all false
set_option maxRecDepth 100000
set_option maxHeartbeats 2000000
namespace PW
open PySem L2 Evl PySem.Spec PyProof.Rows
section
variable {K : Fg} {δ : Dl} {M : Ms} {R : D → Ms → Prop} {RR : D → Prop} {x : D}
theorem od_inLf {ds : List D} (f : flatD x = true) (fs : ds.all flatD = true) (q : RR (.bool (ds.any fun z => PyData.eqv z x))) : OD K (rIn K false) x (.list ds) RR := fun H Hd v w Q ex dx dy k => by
  cases dy with
  | lst hs ha =>
    refine ⟨_, _, rfl, .inl (ex_l ex hs), flat_of dx f, flats_of ha fs, ?_⟩
    have e := inV_of dx f ha fs
    simp only [Bool.false_eq_true, if_false, e]
    exact k _ _ H Hd Step.refl ex (.bl _) q
/-- {} as data -/
theorem we_dnewK (h : R (.dict []) M) : WE K tDNewK δ M R := fun σ H Hd ls Q a k => by
  show ∀ p, H p = none → _
  intro p hp
  have hd : Hd p = none := by
    cases e : Hd p with
    | none => rfl
    | some o => rw [a.sub p o e] at hp; cases hp
  have ex : Ex Hd (upd Hd p (.dK [])) := Ex.new hd
  have st : Step H Hd [] (upd H p (.dK [])) (upd Hd p (.dK [])) := ⟨ex, (step_new hp (Hd := Hd)).old, fun b h1 h2 => by
    have : b ≠ p := fun z => h1 (z ▸ hp)
    rw [upd_ne this]; exact h2, (step_new hp (Hd := Hd)).there⟩
  refine k (.ref p) _ M _ _ (a.up st fun b o e => ?_) st.all (.dic (ps := []) rfl (.inl upd_same) rfl) h
  by_cases e' : b = p
  · subst e'; rw [upd_same] at e; cases e; exact upd_same
  · rw [upd_ne e'] at e; rw [upd_ne e']; exact a.sub b o e
end
/-! ### in a comprehension's body: the same over K -/
theorem isiK {X : Cx} {K : Fg} (h : X.K = K) : CallR X (.builtin "isinstance") (rIsi K) := h ▸ call_isi
theorem truK {X : Cx} {K : Fg} {a : Expr} {ta : TE} (h : X.K = K) (ha : PE X a ta) (he : ∀ whole, isTrue a X.env whole = (do let v ← whole; standAt a.pos; holding [v] (truthy v))) :
    PT X a (fun σ H Q => ta σ H fun x H' => ∃ k, TruV K x H' k ∧ Q k H') := by subst h; exact pt_truth ha he
theorem catK {X : Cx} {K : Fg} (h : X.K = K) : OpR X (binaryOp .Add) (rCatS K) := h ▸ op_catS
theorem slK {X : Cx} {K : Fg} (h : X.K = K) : SlR X (rSlL K) := h ▸ sl_list
theorem tupK {X : Cx} {K : Fg} (h : X.K = K) : CallR X (.type "tuple") (rTupD K) := h ▸ call_tuple_of
section
variable {K : Fg} {δ : Dl} {M : Ms} {RL : List D → Ms → Prop} {te : TE} {g : TG} {vs : List Nat}
/-- a comprehension whose items all have a property -/
theorem comp_each {P : D → Prop} (ds : List D) : ∀ (acc : List D), (∀ d ∈ ds, WC K g vs d δ M fun δ1 => WE K te δ1 M fun y M2 => M2 = M ∧ P y) → acc.length + ds.length ≤ sizeLine → (∀ y ∈ acc, P y) → (∀ es, es.length = acc.length + ds.length → (∀ y ∈ es, P y) → RL es M) → comp K g tYes te vs ds δ M acc RL := by
  induction ds with
  | nil => intro acc h hl ha k; exact comp_nil (k acc (by simp) ha)
  | cons d ds ih =>
    intro acc h hl ha k
    refine comp_yes ?_
    have h1 := h d (by simp)
    intro σ H Hd ls v Q a dv kk
    refine h1 σ H Hd ls v Q a dv fun δ' σ' a' l' j' q => kk δ' σ' a' l' j' (we_mono q fun y M2 q2 => ?_)
    obtain ⟨e, py⟩ := q2
    subst e
    simp only [List.length_cons] at hl
    refine ⟨by omega, ih (acc ++ [y]) (fun x hx => h x (by simp [hx])) (by rw [List.length_append]; simp only [List.length_cons, List.length_nil]; omega) (fun z hz => ?_) fun es he hes => k es (by rw [List.length_append] at he; simp only [List.length_cons, List.length_nil] at he ⊢; omega) hes⟩
    rcases List.mem_append.mp hz with hz | hz
    · exact ha z hz
    · rw [List.mem_singleton.mp hz]; exact py
end
theorem cutD_mem {xs : List D} {lo hi : Option Int} {x : D} (h : x ∈ cutD xs lo hi) : x ∈ xs := List.mem_of_mem_drop (List.mem_of_mem_take h)
theorem cutD_len (xs : List D) (lo hi : Option Int) : (cutD xs lo hi).length ≤ xs.length := by
  unfold cutD
  rw [List.length_take, List.length_drop]
  omega
end PW

set_option Elab.async false
set_option linter.all false
set_option maxRecDepth 100000
set_option maxHeartbeats 4000000
namespace K01
open PySem L2 Evl PySem.Spec PyProof.Rows PW
def topS (i : Nat) : Stmt := PySem.Challenge.pw_squeezedkeyer_k01_rules_judged.main.body.getD i (.Pass ⟨0, 0, 0, 0⟩)
abbrev s_is_whole : Stmt := topS 1
theorem sc_is_whole : FnScope ["value"] ["value"] (defScope s_is_whole) := ⟨rfl, rfl, rfl, by decide +kernel, rfl, by decide +kernel, by decide +kernel⟩
abbrev s_is_whole_from : Stmt := topS 2
theorem sc_is_whole_from : FnScope ["value", "least"] ["value", "least"] (defScope s_is_whole_from) := ⟨rfl, rfl, rfl, by decide +kernel, rfl, by decide +kernel, by decide +kernel⟩
abbrev s_is_one_of : Stmt := topS 3
theorem sc_is_one_of : FnScope ["value", "words"] ["value", "words"] (defScope s_is_one_of) := ⟨rfl, rfl, rfl, by decide +kernel, rfl, by decide +kernel, by decide +kernel⟩
abbrev s_is_rules : Stmt := topS 8
theorem sc_is_rules : FnScope ["value"] ["value"] (defScope s_is_rules) := ⟨rfl, rfl, rfl, by decide +kernel, rfl, by decide +kernel, by decide +kernel⟩
abbrev s_has_form : Stmt := topS 9
theorem sc_has_form : FnScope ["value"] ["value"] (defScope s_has_form) := ⟨rfl, rfl, rfl, by decide +kernel, rfl, by decide +kernel, by decide +kernel⟩
abbrev s_right_items : Stmt := topS 10
theorem sc_right_items : FnScope ["items", "s_length", "l_length", "pause", "deaf", "remember", "again", "both"] ["items"] (defScope s_right_items) := ⟨rfl, rfl, rfl, by decide +kernel, rfl, by decide +kernel, by decide +kernel⟩
abbrev s_law_reel : Stmt := topS 12
theorem sc_law_reel : FnScope ["script", "index", "cell"] ["script", "index"] (defScope s_law_reel) := ⟨rfl, rfl, rfl, by decide +kernel, rfl, by decide +kernel, by decide +kernel⟩
abbrev s_law_spin : Stmt := topS 13
theorem sc_law_spin : FnScope ["reel", "many", "mixed", "found"] ["reel", "many"] (defScope s_law_spin) := ⟨rfl, rfl, rfl, by decide +kernel, rfl, by decide +kernel, by decide +kernel⟩
abbrev s_law_rules : Stmt := topS 14
theorem sc_law_rules : FnScope ["reel", "most", "some", "deafs", "low", "high", "turn"] ["reel", "most"] (defScope s_law_rules) := ⟨rfl, rfl, rfl, by decide +kernel, rfl, by decide +kernel, by decide +kernel⟩
abbrev s_law_is_number : Stmt := topS 15
theorem sc_law_is_number : FnScope ["value", "minimum"] ["value", "minimum"] (defScope s_law_is_number) := ⟨rfl, rfl, rfl, by decide +kernel, rfl, by decide +kernel, by decide +kernel⟩
abbrev s_law_due : Stmt := topS 16
theorem sc_law_due : FnScope ["value", "words", "word", "item"] ["value"] (defScope s_law_due) := ⟨rfl, rfl, rfl, by decide +kernel, rfl, by decide +kernel, by decide +kernel⟩
abbrev s_law_bent : Stmt := topS 17
theorem sc_law_bent : FnScope ["reel", "rules", "odds", "found", "other", "two", "spot", "items", "odd"] ["reel", "rules"] (defScope s_law_bent) := ⟨rfl, rfl, rfl, by decide +kernel, rfl, by decide +kernel, by decide +kernel⟩
abbrev s_law : Stmt := topS 18
theorem sc_law : FnScope ["script", "index", "some", "reel", "most", "rules", "value", "kept"] ["script"] (defScope s_law) := ⟨rfl, rfl, rfl, by decide +kernel, rfl, by decide +kernel, by decide +kernel⟩
/-- what the top has left -/
structure Tx (K : Fg) (mg : Str → Option Value) where
  f_is_whole : Addr
  d_is_whole : FuncData
  F_is_whole : Fun K "is_whole" "is_whole" s_is_whole f_is_whole d_is_whole
  m_is_whole : mg "is_whole" = some (.ref f_is_whole)
  b_is_whole : Binds K d_is_whole ["value"] []
  f_is_whole_from : Addr
  d_is_whole_from : FuncData
  F_is_whole_from : Fun K "is_whole_from" "is_whole_from" s_is_whole_from f_is_whole_from d_is_whole_from
  m_is_whole_from : mg "is_whole_from" = some (.ref f_is_whole_from)
  b_is_whole_from : Binds K d_is_whole_from ["value", "least"] []
  f_is_one_of : Addr
  d_is_one_of : FuncData
  F_is_one_of : Fun K "is_one_of" "is_one_of" s_is_one_of f_is_one_of d_is_one_of
  m_is_one_of : mg "is_one_of" = some (.ref f_is_one_of)
  b_is_one_of : Binds K d_is_one_of ["value", "words"] []
  f_is_rules : Addr
  d_is_rules : FuncData
  F_is_rules : Fun K "is_rules" "is_rules" s_is_rules f_is_rules d_is_rules
  m_is_rules : mg "is_rules" = some (.ref f_is_rules)
  b_is_rules : Binds K d_is_rules ["value"] []
  f_has_form : Addr
  d_has_form : FuncData
  F_has_form : Fun K "has_form" "has_form" s_has_form f_has_form d_has_form
  m_has_form : mg "has_form" = some (.ref f_has_form)
  b_has_form : Binds K d_has_form ["value"] []
  f_right_items : Addr
  d_right_items : FuncData
  F_right_items : Fun K "right_items" "right_items" s_right_items f_right_items d_right_items
  m_right_items : mg "right_items" = some (.ref f_right_items)
  b_right_items : Binds K d_right_items ["items"] []
  f_law_reel : Addr
  d_law_reel : FuncData
  F_law_reel : Fun K "_law_reel" "_law_reel" s_law_reel f_law_reel d_law_reel
  m_law_reel : mg "_law_reel" = some (.ref f_law_reel)
  b_law_reel : Binds K d_law_reel ["script", "index"] []
  f_law_spin : Addr
  d_law_spin : FuncData
  F_law_spin : Fun K "_law_spin" "_law_spin" s_law_spin f_law_spin d_law_spin
  m_law_spin : mg "_law_spin" = some (.ref f_law_spin)
  b_law_spin : Binds K d_law_spin ["reel", "many"] []
  f_law_rules : Addr
  d_law_rules : FuncData
  F_law_rules : Fun K "_law_rules" "_law_rules" s_law_rules f_law_rules d_law_rules
  m_law_rules : mg "_law_rules" = some (.ref f_law_rules)
  b_law_rules : Binds K d_law_rules ["reel", "most"] []
  f_law_is_number : Addr
  d_law_is_number : FuncData
  F_law_is_number : Fun K "_law_is_number" "_law_is_number" s_law_is_number f_law_is_number d_law_is_number
  m_law_is_number : mg "_law_is_number" = some (.ref f_law_is_number)
  b_law_is_number : Binds K d_law_is_number ["value", "minimum"] []
  f_law_due : Addr
  d_law_due : FuncData
  F_law_due : Fun K "_law_due" "_law_due" s_law_due f_law_due d_law_due
  m_law_due : mg "_law_due" = some (.ref f_law_due)
  b_law_due : Binds K d_law_due ["value"] []
  f_law_bent : Addr
  d_law_bent : FuncData
  F_law_bent : Fun K "_law_bent" "_law_bent" s_law_bent f_law_bent d_law_bent
  m_law_bent : mg "_law_bent" = some (.ref f_law_bent)
  b_law_bent : Binds K d_law_bent ["reel", "rules"] []
  f_law : Addr
  d_law : FuncData
  F_law : Fun K "law" "law" s_law f_law d_law
  m_law : mg "law" = some (.ref f_law)
  b_law : Binds K d_law ["script"] []
  v_MANY_ITEMS : V
  u_MANY_ITEMS : Value
  m_MANY_ITEMS : mg "MANY_ITEMS" = some u_MANY_ITEMS
  r_MANY_ITEMS : RelV v_MANY_ITEMS u_MANY_ITEMS
  p_MANY_ITEMS : ∀ H, PW.Dp K H v_MANY_ITEMS (.int 7)
  v_REMEMBER_WORDS : V
  u_REMEMBER_WORDS : Value
  m_REMEMBER_WORDS : mg "REMEMBER_WORDS" = some u_REMEMBER_WORDS
  r_REMEMBER_WORDS : RelV v_REMEMBER_WORDS u_REMEMBER_WORDS
  p_REMEMBER_WORDS : ∀ H, PW.Dp K H v_REMEMBER_WORDS (.tuple [(.str "none"), (.str "press"), (.str "held")])
  v_BOTH_WORDS : V
  u_BOTH_WORDS : Value
  m_BOTH_WORDS : mg "BOTH_WORDS" = some u_BOTH_WORDS
  r_BOTH_WORDS : RelV v_BOTH_WORDS u_BOTH_WORDS
  p_BOTH_WORDS : ∀ H, PW.Dp K H v_BOTH_WORDS (.tuple [(.str "turn"), (.str "stay"), (.str "s"), (.str "l")])
  n_abs : mg "abs" = none
  n_all : mg "all" = none
  n_bool : mg "bool" = none
  n_int : mg "int" = none
  n_isinstance : mg "isinstance" = none
  n_len : mg "len" = none
  n_list : mg "list" = none
  n_max : mg "max" = none
  n_min : mg "min" = none
  n_range : mg "range" = none
  n_repr : mg "repr" = none
  n_str : mg "str" = none
  n_tuple : mg "tuple" = none
end K01

set_option Elab.async false
set_option linter.all false
set_option maxRecDepth 100000
set_option maxHeartbeats 4000000
namespace K01
open PySem L2 Evl PySem.Spec PyProof.Rows PW
local macro_rules | `(tactic| walk_at "wp0") => `(tactic| first
  | (with_reducible refine wb_seq ?_) | (with_reducible refine wb_asg ?_) | (with_reducible refine wg_name ?_) | (with_reducible refine wb_ret ?_) | (with_reducible refine vb_if ?_) | (with_reducible refine wb_next ?_) | (with_reducible refine wb_drop ?_) | (with_reducible refine wb_retN ?_)
  | ((with_reducible show WG _ (gTup _ _ _) _ _ _ _); refine wg_tup rfl ?_) | (with_reducible refine wgs_cons ?_) | ((with_reducible show WGs _ (gCons _ _) _ _ _ _); refine wgs_cons ?_) | (with_reducible refine wgs_nil ?_) | ((with_reducible show WGs _ gNil _ _ _ _); refine wgs_nil ?_)
  | ((with_reducible show WE _ (tVar _) _ _ _); refine we_var rfl ?_)
  | (with_reducible refine we_int ?_) | (with_reducible refine we_str ?_) | (with_reducible refine we_bl ?_) | (with_reducible refine we_non ?_)
  | (with_reducible refine we_isi kit_int ?_) | (with_reducible refine we_isi kit_bool ?_) | (with_reducible refine we_isi kit_str ?_) | (with_reducible refine we_isi kit_tup ?_) | (with_reducible refine we_isi kit_lst ?_)
  | ((with_reducible show WE _ (tOp (rIx _) (tVar _) (tC _)) _ _ _); refine we_ixO rfl rfl rfl ?_)
  | ((with_reducible show WE _ (tOp (rCatS _) _ _) _ _ _); refine we_wl (wl_op ?_)) | ((with_reducible refine ol_cat ?s1 ?_); (case s1 => exact len_ok rfl)) | ((with_reducible refine od_catA ?s1 ?_); (case s1 => exact len_ok rfl))
  | (with_reducible refine we_op ?_) | (with_reducible refine we_tup ?_) | (with_reducible refine we_lst ?_) | (with_reducible refine we_pur ?_) | (with_reducible refine we_cb ?_) | (with_reducible refine we_slA ?_)
  | (with_reducible refine we_wl (wl_slL ?_)) | (with_reducible refine wo_none ?_) | (with_reducible refine wo_some ?_)
  | (with_reducible refine wd_cons ?_) | (with_reducible refine wd_nil ?_)
  | (with_reducible refine ve_and ?_) | (with_reducible refine ve_or ?_) | (with_reducible refine ve_not ?_) | (with_reducible refine ve_if ?_)
  | (with_reducible refine vt_and ?_) | (with_reducible refine vt_or ?_) | (with_reducible refine wt_not ?_) | (with_reducible refine wt_testB ?_) | (with_reducible refine wt_truB ?_)
  | (with_reducible refine od_int0 ?_) | ((with_reducible refine od_int ?s1 ?_); (case s1 => first | assumption | decide | exact ⟨by decide, by decide⟩)) | ((with_reducible show OD _ (rIx _) (.list _) (.int _) _); refine od_ix_l rfl ?_) | ((with_reducible show OD _ (rIx _) (.tuple _) (.int _) _); refine od_ix_t rfl ?_) | ((with_reducible show WG _ (gSub (tVar _) _ _) _ _ _ _); refine wg_sub rfl ?_) | (with_reducible refine od_bl0 ?_)
  | ((with_reducible show WE _ (tC _) _ _ _); refine we_con (d := ?wd) ?wc0 ?_; (case wc0 => assumption))
  | (with_reducible refine OD.or1 (od_eqS ?_)) | (with_reducible refine OD.or1 (od_neS ?_)) | (with_reducible refine od_isN ?_) | (with_reducible refine od_notN ?_)
  | ((with_reducible refine OD.or2 (od_eqD ?s1 ?s2 ?_)); (case s1 => first | assumption | exact rfl | decide +kernel); (case s2 => first | assumption | exact rfl | decide +kernel)) | ((with_reducible refine OD.or2 (od_neD ?s1 ?s2 ?_)); (case s1 => first | assumption | exact rfl | decide +kernel); (case s2 => first | assumption | exact rfl | decide +kernel))
  | ((with_reducible refine od_inT ?s1 ?s2 ?_); (case s1 => first | assumption | exact rfl | decide +kernel); (case s2 => first | assumption | exact rfl | decide +kernel)) | ((with_reducible refine od_notInT ?s1 ?s2 ?_); (case s1 => first | assumption | exact rfl | decide +kernel); (case s2 => first | assumption | exact rfl | decide +kernel))
  | (with_reducible refine cd_abs ?_) | (with_reducible refine cd_int ?_) | (with_reducible refine cd_max2 ?_) | (with_reducible refine cd_min2 ?_) | (with_reducible refine cd_lenL ?_) | (with_reducible refine cd_lenT ?_)
  | (with_reducible refine And.intro (fun hT => ?_) (fun hT => ?_))
  | ((with_reducible refine Exists.intro ?wc (And.intro ?we ?_)); (case we => exact rfl))
  | ((with_reducible show ∃ (_ : Int) (_ : Nat) (_ : List D), _); refine ⟨_, _, _, rfl, rfl, rfl, ?_⟩)
  | ((with_reducible refine And.intro ?we ?_); (case we => first | exact rfl | exact trivial | exact len_ok rfl | exact ⟨_, rfl⟩ | exact ⟨_, _, rfl⟩ | exact ⟨_, _, rfl, rfl⟩ | exact ⟨_, _, _, rfl⟩ | exact ⟨_, rfl, by assumption⟩ | exact ⟨_, by assumption, rfl⟩ | assumption)))
local macro_rules | `(tactic| walk_at "wp") => `(tactic| repeat' (first | walk_at "wp0" | fail))

section
variable {P : Program} {w : World} {K : Fg} {mg : Str → Option Value} {base : Heap}
def isWhole (d : D) : Bool := dInt d && !dBool d
theorem ok_is_whole (T : Tx K mg) : FnG P w K mg base 1 T.f_is_whole T.d_is_whole ["value"] (SpF K (pur 1 (fun _ => True) fun ds => .bool (isWhole (ds.getD 0 .none)))) := by
  refine fg_pur T.F_is_whole sc_is_whole fun cdv A outer s H E hr hg => ⟨_, (pss_one (ps_ret (pe_and (pe_callB call_isi (by rfl) T.n_isinstance (by decide +kernel) (pa_cons (pv 0) (pa_cons (pe_bltn (v := .ty "int") (by rfl) T.n_int (by decide +kernel) rfl) pa_nil))) (pe_one (pe_not (pe_callB call_isi (by rfl) T.n_isinstance (by decide +kernel) (pa_cons (pv 0) (pa_cons (pe_bltn (v := .ty "bool") (by rfl) T.n_bool (by decide +kernel) rfl) pa_nil)))))))), fun ds hl hd => ?_⟩
  try simp only [nox_K, cxo_K]
  match ds, hl with
  | [d], _ =>
  walk_at "wp"
  all_goals (show _ = _; simp_all [isWhole])
def wholeFrom (d : D) (k : Int) : Bool := match d with
  | .int i => decide (k ≤ i)
  | _ => false
theorem whole_from (d : D) (k : Int) (h : wholeFrom d k = true) : ∃ i, d = .int i ∧ k ≤ i := by
  cases d <;> simp [wholeFrom] at h
  exact ⟨_, rfl, h⟩
theorem ok_is_whole_from (T : Tx K mg) : FnG P w K mg base 2 T.f_is_whole_from T.d_is_whole_from ["value", "least"] (SpF K (pur 2 (fun ds => ∃ d k, ds = [d, .int k]) fun ds => match ds with
    | [d, .int k] => .bool (wholeFrom d k)
    | _ => .none)) := by
  have G_is_whole := ok_is_whole (P := P) (w := w) (base := base) T
  refine fg_pur T.F_is_whole_from sc_is_whole_from fun cdv A outer s H E hr hg => ⟨_, (pss_one (ps_ret (pe_and (pg_call G_is_whole (hr.mono (by decide)) hg rfl T.m_is_whole T.F_is_whole.kp T.b_is_whole (pa_cons (pv 0) pa_nil)) (pe_one (pe_cmpR op_ge (pv 0) (pv 1) (nomark _)))))), fun ds hl hd => ?_⟩
  try simp only [nox_K, cxo_K]
  obtain ⟨d, k, rfl⟩ := hd
  cases d <;> walk_at "wp"
  all_goals first | (show _ = _; simp_all [isWhole, dInt, dBool, wholeFrom]; done) | (rename_i hT; simp [isWhole, dInt, dBool] at hT; done) | skip
def strIn (ws : List D) (d : D) : Bool := match d with
  | .str x => ws.any fun z => PyData.eqv z (.str x)
  | _ => false
theorem ok_is_one_of (T : Tx K mg) : FnG P w K mg base 2 T.f_is_one_of T.d_is_one_of ["value", "words"] (SpF K (pur 2 (fun ds => ∃ d ws, ds = [d, .tuple ws] ∧ ws.all flatD = true) fun ds => match ds with
    | [d, .tuple ws] => .bool (strIn ws d)
    | _ => .none)) := by
  refine fg_pur T.F_is_one_of sc_is_one_of fun cdv A outer s H E hr hg => ⟨_, (pss_one (ps_ret (pe_and (pe_callB call_isi (by rfl) T.n_isinstance (by decide +kernel) (pa_cons (pv 0) (pa_cons (pe_bltn (v := .ty "str") (by rfl) T.n_str (by decide +kernel) rfl) pa_nil))) (pe_one (pe_cmpR op_in_seq (pv 0) (pv 1) (by rfl)))))), fun ds hl hd => ?_⟩
  try simp only [nox_K, cxo_K]
  obtain ⟨d, ws, rfl, hf⟩ := hd
  cases d <;> walk_at "wp"
  all_goals first | (exact od_inT rfl hf rfl) | (rename_i hT; simp [dStr] at hT; done) | (show _ = _; simp [strIn]; done)
def formR (d : D) : Bool := match d with
  | .tuple xs => (xs.length : Int) == 7
  | _ => false
theorem ok_has_form (T : Tx K mg) : FnG P w K mg base 1 T.f_has_form T.d_has_form ["value"] (SpF K (pur 1 (fun _ => True) fun ds => .bool (formR (ds.getD 0 .none)))) := by
  have p1 := T.p_MANY_ITEMS
  refine fg_pur T.F_has_form sc_has_form fun cdv A outer s H E hr hg => ⟨_, (pss_one (ps_ret (pe_and (pe_callB call_isi (by rfl) T.n_isinstance (by decide +kernel) (pa_cons (pv 0) (pa_cons (pe_bltn (v := .ty "tuple") (by rfl) T.n_tuple (by decide +kernel) rfl) pa_nil))) (pe_one (pe_cmpR (op_eq.or (op_eqD (u65 hr))) (pe_callB call_lenD (by rfl) T.n_len (by decide +kernel) (pa_cons (pv 0) pa_nil)) (pe_glob (v := T.v_MANY_ITEMS) rfl T.m_MANY_ITEMS T.r_MANY_ITEMS) (nomark _)))))), fun ds hl hd => ?_⟩
  try simp only [nox_K, cxo_K]
  match ds, hl with
  | [d], _ =>
  cases d <;> walk_at "wp"
  all_goals first | (rename_i hT; simp [dTup] at hT; done) | rfl
def rightI (a b c d e f g : D) : List Bool := [wholeFrom a 1, wholeFrom b 1, wholeFrom c 1, wholeFrom d 0, strIn [.str "none", .str "press", .str "held"] e, dBool f, strIn [.str "turn", .str "stay", .str "s", .str "l"] g]
theorem ok_right_items (T : Tx K mg) : FnG P w K mg base 3 T.f_right_items T.d_right_items ["items"] (SpF K (pur 1 (fun ds => ∃ a b c d e f g, ds = [.tuple [a, b, c, d, e, f, g]]) fun ds => match ds with
    | [.tuple [a, b, c, d, e, f, g]] => .list ((rightI a b c d e f g).map .bool)
    | _ => .none)) := by
  have G_is_one_of := ok_is_one_of (P := P) (w := w) (base := base) T
  have G_is_whole_from := ok_is_whole_from (P := P) (w := w) (base := base) T
  have p1 := T.p_REMEMBER_WORDS
  have p2 := T.p_BOTH_WORDS
  refine fg_pur T.F_right_items sc_right_items fun cdv A outer s H E hr hg => ⟨_, (pss_cons (ps_asg (pv 0) (pg_tup rfl (pgs_cons (pg_name (i := 1) sc_right_items.nd rfl (Or.inl rfl)) (pgs_cons (pg_name (i := 2) sc_right_items.nd rfl (Or.inl rfl)) (pgs_cons (pg_name (i := 3) sc_right_items.nd rfl (Or.inl rfl)) (pgs_cons (pg_name (i := 4) sc_right_items.nd rfl (Or.inl rfl)) (pgs_cons (pg_name (i := 5) sc_right_items.nd rfl (Or.inl rfl)) (pgs_cons (pg_name (i := 6) sc_right_items.nd rfl (Or.inl rfl)) (pgs_cons (pg_name (i := 7) sc_right_items.nd rfl (Or.inl rfl)) pgs_nil))))))))) (pss_one (ps_ret (pe_lst (pa_cons (pg_call G_is_whole_from (hr.mono (by decide)) hg rfl T.m_is_whole_from T.F_is_whole_from.kp T.b_is_whole_from (pa_cons (pv 1) (pa_cons pe_int pa_nil))) (pa_cons (pg_call G_is_whole_from (hr.mono (by decide)) hg rfl T.m_is_whole_from T.F_is_whole_from.kp T.b_is_whole_from (pa_cons (pv 2) (pa_cons pe_int pa_nil))) (pa_cons (pg_call G_is_whole_from (hr.mono (by decide)) hg rfl T.m_is_whole_from T.F_is_whole_from.kp T.b_is_whole_from (pa_cons (pv 3) (pa_cons pe_int pa_nil))) (pa_cons (pg_call G_is_whole_from (hr.mono (by decide)) hg rfl T.m_is_whole_from T.F_is_whole_from.kp T.b_is_whole_from (pa_cons (pv 4) (pa_cons pe_int pa_nil))) (pa_cons (pg_call G_is_one_of (hr.mono (by decide)) hg rfl T.m_is_one_of T.F_is_one_of.kp T.b_is_one_of (pa_cons (pv 5) (pa_cons (pe_glob (v := T.v_REMEMBER_WORDS) rfl T.m_REMEMBER_WORDS T.r_REMEMBER_WORDS) pa_nil))) (pa_cons (pe_callB call_isi (by rfl) T.n_isinstance (by decide +kernel) (pa_cons (pv 6) (pa_cons (pe_bltn (v := .ty "bool") (by rfl) T.n_bool (by decide +kernel) rfl) pa_nil))) (pa_cons (pg_call G_is_one_of (hr.mono (by decide)) hg rfl T.m_is_one_of T.F_is_one_of.kp T.b_is_one_of (pa_cons (pv 7) (pa_cons (pe_glob (v := T.v_BOTH_WORDS) rfl T.m_BOTH_WORDS T.r_BOTH_WORDS) pa_nil))) pa_nil))))))))))), fun ds hl hd => ?_⟩
  try simp only [nox_K, cxo_K]
  obtain ⟨a, b, c, d, e, f, g, rfl⟩ := hd
  walk_at "wp"
  rfl
end
end K01

set_option Elab.async false
set_option linter.all false
set_option maxRecDepth 100000
set_option maxHeartbeats 4000000
namespace K01
open PySem L2 Evl PySem.Spec PyProof.Rows PW
local macro_rules | `(tactic| walk_at "wp0") => `(tactic| first
  | (with_reducible refine wb_seq ?_) | (with_reducible refine wb_asg ?_) | (with_reducible refine wg_name ?_) | (with_reducible refine wb_ret ?_) | (with_reducible refine vb_if ?_) | (with_reducible refine wb_next ?_) | (with_reducible refine wb_drop ?_) | (with_reducible refine wb_retN ?_)
  | ((with_reducible show WG _ (gTup _ _ _) _ _ _ _); refine wg_tup rfl ?_) | (with_reducible refine wgs_cons ?_) | ((with_reducible show WGs _ (gCons _ _) _ _ _ _); refine wgs_cons ?_) | (with_reducible refine wgs_nil ?_) | ((with_reducible show WGs _ gNil _ _ _ _); refine wgs_nil ?_)
  | ((with_reducible show WE _ (tVar _) _ _ _); refine we_var rfl ?_)
  | (with_reducible refine we_int ?_) | (with_reducible refine we_str ?_) | (with_reducible refine we_bl ?_) | (with_reducible refine we_non ?_)
  | (with_reducible refine we_isi kit_int ?_) | (with_reducible refine we_isi kit_bool ?_) | (with_reducible refine we_isi kit_str ?_) | (with_reducible refine we_isi kit_tup ?_) | (with_reducible refine we_isi kit_lst ?_)
  | ((with_reducible show WE _ (tOp (rIx _) (tVar _) (tC _)) _ _ _); refine we_ixO rfl rfl rfl ?_)
  | ((with_reducible show WE _ (tOp (rCatS _) _ _) _ _ _); refine we_wl (wl_op ?_)) | ((with_reducible refine ol_cat ?s1 ?_); (case s1 => exact len_ok rfl)) | ((with_reducible refine od_catA ?s1 ?_); (case s1 => exact len_ok rfl))
  | (with_reducible refine we_op ?_) | (with_reducible refine we_tup ?_) | (with_reducible refine we_lst ?_) | (with_reducible refine we_pur ?_) | (with_reducible refine we_cb ?_) | (with_reducible refine we_slA ?_)
  | (with_reducible refine we_wl (wl_slL ?_)) | (with_reducible refine wo_none ?_) | (with_reducible refine wo_some ?_)
  | (with_reducible refine wd_cons ?_) | (with_reducible refine wd_nil ?_)
  | (with_reducible refine ve_and ?_) | (with_reducible refine ve_or ?_) | (with_reducible refine ve_not ?_) | (with_reducible refine ve_if ?_)
  | (with_reducible refine vt_and ?_) | (with_reducible refine vt_or ?_) | (with_reducible refine wt_not ?_) | (with_reducible refine wt_testB ?_) | (with_reducible refine wt_truB ?_)
  | (with_reducible refine od_int0 ?_) | ((with_reducible refine od_int ?s1 ?_); (case s1 => first | assumption | decide | exact ⟨by decide, by decide⟩)) | ((with_reducible show OD _ (rIx _) (.list _) (.int _) _); refine od_ix_l rfl ?_) | ((with_reducible show OD _ (rIx _) (.tuple _) (.int _) _); refine od_ix_t rfl ?_) | ((with_reducible show WG _ (gSub (tVar _) _ _) _ _ _ _); refine wg_sub rfl ?_) | (with_reducible refine od_bl0 ?_)
  | ((with_reducible show WE _ (tC _) _ _ _); refine we_con (d := ?wd) ?wc0 ?_; (case wc0 => assumption))
  | (with_reducible refine OD.or1 (od_eqS ?_)) | (with_reducible refine OD.or1 (od_neS ?_)) | (with_reducible refine od_isN ?_) | (with_reducible refine od_notN ?_)
  | ((with_reducible refine OD.or2 (od_eqD ?s1 ?s2 ?_)); (case s1 => first | assumption | exact rfl | decide +kernel); (case s2 => first | assumption | exact rfl | decide +kernel)) | ((with_reducible refine OD.or2 (od_neD ?s1 ?s2 ?_)); (case s1 => first | assumption | exact rfl | decide +kernel); (case s2 => first | assumption | exact rfl | decide +kernel))
  | ((with_reducible refine od_inT ?s1 ?s2 ?_); (case s1 => first | assumption | exact rfl | decide +kernel); (case s2 => first | assumption | exact rfl | decide +kernel)) | ((with_reducible refine od_notInT ?s1 ?s2 ?_); (case s1 => first | assumption | exact rfl | decide +kernel); (case s2 => first | assumption | exact rfl | decide +kernel))
  | (with_reducible refine cd_abs ?_) | (with_reducible refine cd_int ?_) | (with_reducible refine cd_max2 ?_) | (with_reducible refine cd_min2 ?_) | (with_reducible refine cd_lenL ?_) | (with_reducible refine cd_lenT ?_)
  | (with_reducible refine And.intro (fun hT => ?_) (fun hT => ?_))
  | ((with_reducible refine Exists.intro ?wc (And.intro ?we ?_)); (case we => exact rfl))
  | ((with_reducible show ∃ (_ : Int) (_ : Nat) (_ : List D), _); refine ⟨_, _, _, rfl, rfl, rfl, ?_⟩)
  | ((with_reducible refine And.intro ?we ?_); (case we => first | exact rfl | exact trivial | exact len_ok rfl | exact ⟨_, rfl⟩ | exact ⟨_, _, rfl⟩ | exact ⟨_, _, rfl, rfl⟩ | exact ⟨_, _, _, rfl⟩ | exact ⟨_, rfl, by assumption⟩ | exact ⟨_, by assumption, rfl⟩ | assumption)))
local macro_rules | `(tactic| walk_at "wp") => `(tactic| repeat' (first | walk_at "wp0" | fail))

/-- rules -/
structure Ru where
  s : Int
  l : Int
  p : Int
  d : Int
  rem : Str
  ag : Bool
  bo : Str
@[reducible] def Ru.dat (r : Ru) : D := .tuple [.int r.s, .int r.l, .int r.p, .int r.d, .str r.rem, .bool r.ag, .str r.bo]
structure Ru.Ok (r : Ru) : Prop where
  s : 1 ≤ r.s
  l : 1 ≤ r.l
  p : 1 ≤ r.p
  d : 0 ≤ r.d
  rem : r.rem = "none" ∨ r.rem = "press" ∨ r.rem = "held"
  bo : r.bo = "turn" ∨ r.bo = "stay" ∨ r.bo = "s" ∨ r.bo = "l"
theorem Ru.Ok.right {r : Ru} (h : r.Ok) : (rightI (.int r.s) (.int r.l) (.int r.p) (.int r.d) (.str r.rem) (.bool r.ag) (.str r.bo)).all id = true := by
  have e1 : strIn [.str "none", .str "press", .str "held"] (.str r.rem) = true := by
    rcases h.rem with e | e | e <;> rw [e] <;> decide +kernel
  have e2 : strIn [.str "turn", .str "stay", .str "s", .str "l"] (.str r.bo) = true := by
    rcases h.bo with e | e | e | e <;> rw [e] <;> decide +kernel
  simp [rightI, wholeFrom, e1, e2, dBool, h.s, h.l, h.p, h.d]
/-- what is_rules answers -/
def isRu (d : D) : Bool := match d with
  | .tuple [a, b, c, d, e, f, g] => (rightI a b c d e f g).all id
  | _ => false
section
variable {P : Program} {w : World} {K : Fg} {mg : Str → Option Value} {base : Heap}
theorem form7 (d : D) (h : formR d = true) : ∃ a b c e f g i, d = .tuple [a, b, c, e, f, g, i] := by
  cases d with
  | tuple xs =>
    have h7 : xs.length = 7 := by
      have : ((xs.length : Int) == 7) = true := h
      have := eq_of_beq this
      omega
    match xs, h7 with
    | [a, b, c, e, f, g, i], _ => exact ⟨_, _, _, _, _, _, _, rfl⟩
  | _ => simp [formR] at h
theorem form_no (d : D) (h : formR d = false) : isRu d = false := by
  cases d with
  | tuple xs =>
    match xs with
    | [a, b, c, e, f, g, i] => simp [formR] at h
    | [] => rfl
    | [_] => rfl
    | [_, _] => rfl
    | [_, _, _] => rfl
    | [_, _, _, _] => rfl
    | [_, _, _, _, _] => rfl
    | [_, _, _, _, _, _] => rfl
    | _ :: _ :: _ :: _ :: _ :: _ :: _ :: _ :: _ => rfl
  | _ => rfl
theorem ok_is_rules (T : Tx K mg) : FnG P w K mg base 4 T.f_is_rules T.d_is_rules ["value"] (SpF K (pur 1 (fun _ => True) fun ds => .bool (isRu (ds.getD 0 .none)))) := by
  have G_has_form := ok_has_form (P := P) (w := w) (base := base) T
  have G_right_items := ok_right_items (P := P) (w := w) (base := base) T
  refine fg_pur T.F_is_rules sc_is_rules fun cdv A outer s H E hr hg => ⟨_, (pss_one (ps_ret (pe_and (pg_call G_has_form (hr.mono (by decide)) hg rfl T.m_has_form T.F_has_form.kp T.b_has_form (pa_cons (pv 0) pa_nil)) (pe_one (pe_callB (cr_all rfl) (by rfl) T.n_all (by decide +kernel) (pa_cons (pg_call G_right_items (hr.mono (by decide)) hg rfl T.m_right_items T.F_right_items.kp T.b_right_items (pa_cons (pv 0) pa_nil)) pa_nil)))))), fun ds hl hd => ?_⟩
  try simp only [nox_K, cxo_K]
  match ds, hl with
  | [d], _ =>
  walk_at "wp"
  · rename_i hT
    obtain ⟨a, b, c, e, f, g, i, rfl⟩ := form7 d hT
    refine ⟨⟨_, _, _, _, _, _, _, rfl⟩, ?_⟩
    walk_at "wp"
    exact cd_all (bs := rightI a b c e f g i) rfl
  · rename_i hT
    exact congrArg PyData.bool (form_no d hT).symm
end
end K01

set_option Elab.async false
set_option linter.all false
set_option maxRecDepth 100000
set_option maxHeartbeats 4000000
namespace K01
open PySem L2 Evl PySem.Spec PyProof.Rows PW
local macro_rules | `(tactic| walk_at "wp0") => `(tactic| first
  | (with_reducible refine wb_seq ?_) | (with_reducible refine wb_asg ?_) | (with_reducible refine wg_name ?_) | (with_reducible refine wb_ret ?_) | (with_reducible refine vb_if ?_) | (with_reducible refine wb_next ?_) | (with_reducible refine wb_drop ?_) | (with_reducible refine wb_retN ?_)
  | ((with_reducible show WG _ (gTup _ _ _) _ _ _ _); refine wg_tup rfl ?_) | (with_reducible refine wgs_cons ?_) | ((with_reducible show WGs _ (gCons _ _) _ _ _ _); refine wgs_cons ?_) | (with_reducible refine wgs_nil ?_) | ((with_reducible show WGs _ gNil _ _ _ _); refine wgs_nil ?_)
  | ((with_reducible show WE _ (tVar _) _ _ _); refine we_var rfl ?_)
  | (with_reducible refine we_int ?_) | (with_reducible refine we_str ?_) | (with_reducible refine we_bl ?_) | (with_reducible refine we_non ?_)
  | (with_reducible refine we_isi kit_int ?_) | (with_reducible refine we_isi kit_bool ?_) | (with_reducible refine we_isi kit_str ?_) | (with_reducible refine we_isi kit_tup ?_) | (with_reducible refine we_isi kit_lst ?_)
  | ((with_reducible show WE _ (tOp (rIx _) (tVar _) (tC _)) _ _ _); refine we_ixO rfl rfl rfl ?_)
  | ((with_reducible show WE _ (tOp (rCatS _) _ _) _ _ _); refine we_wl (wl_op ?_)) | ((with_reducible refine ol_cat ?s1 ?_); (case s1 => exact len_ok rfl)) | ((with_reducible refine od_catA ?s1 ?_); (case s1 => exact len_ok rfl))
  | (with_reducible refine we_op ?_) | (with_reducible refine we_tup ?_) | (with_reducible refine we_lst ?_) | (with_reducible refine we_pur ?_) | (with_reducible refine we_cb ?_) | (with_reducible refine we_slA ?_)
  | (with_reducible refine we_wl (wl_slL ?_)) | (with_reducible refine wo_none ?_) | (with_reducible refine wo_some ?_)
  | (with_reducible refine wd_cons ?_) | (with_reducible refine wd_nil ?_)
  | (with_reducible refine ve_and ?_) | (with_reducible refine ve_or ?_) | (with_reducible refine ve_not ?_) | (with_reducible refine ve_if ?_)
  | (with_reducible refine vt_and ?_) | (with_reducible refine vt_or ?_) | (with_reducible refine wt_not ?_) | (with_reducible refine wt_testB ?_) | (with_reducible refine wt_truB ?_)
  | (with_reducible refine od_int0 ?_) | ((with_reducible refine od_int ?s1 ?_); (case s1 => first | assumption | decide | exact ⟨by decide, by decide⟩)) | ((with_reducible show OD _ (rIx _) (.list _) (.int _) _); refine od_ix_l rfl ?_) | ((with_reducible show OD _ (rIx _) (.tuple _) (.int _) _); refine od_ix_t rfl ?_) | ((with_reducible show WG _ (gSub (tVar _) _ _) _ _ _ _); refine wg_sub rfl ?_) | (with_reducible refine od_bl0 ?_)
  | ((with_reducible show WE _ (tC _) _ _ _); refine we_con (d := ?wd) ?wc0 ?_; (case wc0 => assumption))
  | (with_reducible refine OD.or1 (od_eqS ?_)) | (with_reducible refine OD.or1 (od_neS ?_)) | (with_reducible refine od_isN ?_) | (with_reducible refine od_notN ?_)
  | ((with_reducible refine OD.or2 (od_eqD ?s1 ?s2 ?_)); (case s1 => first | assumption | exact rfl | decide +kernel); (case s2 => first | assumption | exact rfl | decide +kernel)) | ((with_reducible refine OD.or2 (od_neD ?s1 ?s2 ?_)); (case s1 => first | assumption | exact rfl | decide +kernel); (case s2 => first | assumption | exact rfl | decide +kernel))
  | ((with_reducible refine od_inT ?s1 ?s2 ?_); (case s1 => first | assumption | exact rfl | decide +kernel); (case s2 => first | assumption | exact rfl | decide +kernel)) | ((with_reducible refine od_notInT ?s1 ?s2 ?_); (case s1 => first | assumption | exact rfl | decide +kernel); (case s2 => first | assumption | exact rfl | decide +kernel))
  | (with_reducible refine cd_abs ?_) | (with_reducible refine cd_int ?_) | (with_reducible refine cd_max2 ?_) | (with_reducible refine cd_min2 ?_) | (with_reducible refine cd_lenL ?_) | (with_reducible refine cd_lenT ?_)
  | (with_reducible refine And.intro (fun hT => ?_) (fun hT => ?_))
  | ((with_reducible refine Exists.intro ?wc (And.intro ?we ?_)); (case we => exact rfl))
  | ((with_reducible show ∃ (_ : Int) (_ : Nat) (_ : List D), _); refine ⟨_, _, _, rfl, rfl, rfl, ?_⟩)
  | ((with_reducible refine And.intro ?we ?_); (case we => first | exact rfl | exact trivial | exact len_ok rfl | exact ⟨_, rfl⟩ | exact ⟨_, _, rfl⟩ | exact ⟨_, _, rfl, rfl⟩ | exact ⟨_, _, _, rfl⟩ | exact ⟨_, rfl, by assumption⟩ | exact ⟨_, by assumption, rfl⟩ | assumption)))
local macro_rules | `(tactic| walk_at "wp") => `(tactic| repeat' (first | walk_at "wp0" | fail))

section
variable {P : Program} {w : World} {K : Fg} {mg : Str → Option Value} {base : Heap}
/-- a reel: three ints that are not negative, the second one small -/
structure Reel (ds : List D) : Prop where
  ex : ∃ a b c : Int, ds = [.int a, .int b, .int c] ∧ 0 ≤ a ∧ 0 ≤ b ∧ b < 2 ^ 200 ∧ 0 ≤ c ∧ c < 2 ^ 60
/-- _law_spin: a number below many; the reel stays a reel (its count of draws may have grown by one) -/
def spinS : FS := fun cs M R => ∃ a b c many : Int, cs = [.own 0, .dat (.int many)] ∧ M = [.lst [.int a, .int b, .int c]] ∧ 0 ≤ a ∧ 0 ≤ b ∧ b < 2 ^ 200 ∧ 0 ≤ c ∧ c < 2 ^ 60 ∧ 0 < many ∧ many < 2 ^ 400 ∧
  ∀ z a' c' : Int, 0 ≤ z → z < many → 0 ≤ a' → c ≤ c' → c' ≤ c + 1 → R (.int z) [.lst [.int a', .int b, .int c']]
theorem bits_le {i : Int} {n : Nat} (h : i.natAbs < 2 ^ n) (h0 : 0 < n) : Builtin.Int.intBits i ≤ n := by
  have := PySem.Flt.log2_lt_of h0 h
  unfold Builtin.Int.intBits
  split <;> omega
theorem ok_spin (T : Tx K mg) : FnG P w K mg base 1 T.f_law_spin T.d_law_spin ["reel", "many"] (SpF K spinS) := by
  refine fgok T.F_law_spin sc_law_spin (fun cs M R h => ?_) fun cdv A outer s H E hr hg => ⟨_, (pss_cons (ps_if (pt_cmpR op_gt (pe_ix ix_seq (pv 0) pe_int (fun _ _ => rfl)) pe_int (nomark _)) (pss_cons (ps_set (i := 3) sc_law_spin.nd rfl (Or.inl rfl) (pe_op op_mod (pe_callTy call_int1 (by rfl) T.n_int (by decide +kernel) (pa_cons (pe_ix ix_seq (pv 0) pe_int (fun _ _ => rfl)) pa_nil)) (pv 1))) (pss_cons (ps_asg (pe_op op_fdivW (pe_ix ix_seq (pv 0) pe_int (fun _ _ => rfl)) (pv 1)) (pg_sub (pv 0) pe_int set_list)) (pss_one (ps_ret (pv 3))))) pss_nil) (pss_cons (ps_asg (pe_op op_add (pe_ix ix_seq (pv 0) pe_int (fun _ _ => rfl)) pe_int) (pg_sub (pv 0) pe_int set_list)) (pss_cons (ps_set (i := 2) sc_law_spin.nd rfl (Or.inl rfl) (pe_op op_mod (pe_callTy call_int1 (by rfl) T.n_int (by decide +kernel) (pa_cons (pe_op op_powW (pe_op op_add (pe_ix ix_seq (pv 0) pe_int (fun _ _ => rfl)) (pe_op op_mulW pe_int (pe_ix ix_seq (pv 0) pe_int (fun _ _ => rfl)))) pe_int) pa_nil)) (pe_op op_add (pe_op op_powW pe_int pe_int) pe_int))) (pss_cons (ps_set (i := 2) sc_law_spin.nd rfl (Or.inl rfl) (pe_op op_mod (pe_callTy call_int1 (by rfl) T.n_int (by decide +kernel) (pa_cons (pe_op op_powW (pe_op op_add (pv 2) (pe_op op_mulW pe_int (pe_ix ix_seq (pv 0) pe_int (fun _ _ => rfl)))) pe_int) pa_nil)) (pe_op op_add (pe_op op_powW pe_int pe_int) pe_int))) (pss_one (ps_ret (pe_op op_mod (pe_callTy call_int1 (by rfl) T.n_int (by decide +kernel) (pa_cons (pe_op op_fdivW (pv 2) (pe_op op_powW pe_int pe_int)) pa_nil)) (pv 1)))))))), fun cs M R h => ?_⟩
  · obtain ⟨a, b, c, many, rfl, _⟩ := h
    rfl
  try simp only [nox_K, cxo_K]
  obtain ⟨a, b, c, many, rfl, rfl, ha, hb, hb2, hc, hc2, hm, hm2, hR⟩ := h
  have hp1 : (0 : Int) ≤ 3 ∧ (Builtin.Int.intBits (b + 1299709 * (c + 1)) : Int) * 3 ≤ 2 ^ 27 := ⟨by decide, by
    have := bits_le (i := b + 1299709 * (c + 1)) (n := 202) (by omega) (by decide)
    omega⟩
  have hw1 : CMulW 1299709 (c + 1) := wide_mul (a := 21) (b := 61) (by decide) (by omega) (by decide) (by decide) (by decide)
  have hd1 : CDivW a many := wide_div hm (b := 400) (by omega) (by decide) (by decide)
  have hw2 : CMulW 15485863 (c + 1) := wide_mul (a := 24) (b := 61) (by decide) (by omega) (by decide) (by decide) (by decide)
  have hx0 : 0 ≤ ((b + 1299709 * (c + 1)) ^ Int.toNat 3 % ((10 : Int) ^ Int.toNat 37 + 43)) ∧ ((b + 1299709 * (c + 1)) ^ Int.toNat 3 % ((10 : Int) ^ Int.toNat 37 + 43)) < 2 ^ 130 := by
    exact ⟨Int.emod_nonneg _ (by decide), Int.lt_trans (Int.emod_lt_of_pos _ (by decide)) (by decide)⟩
  have hp2 : (0 : Int) ≤ 3 ∧ (Builtin.Int.intBits (((b + 1299709 * (c + 1)) ^ Int.toNat 3 % ((10 : Int) ^ Int.toNat 37 + 43)) + 15485863 * (c + 1)) : Int) * 3 ≤ 2 ^ 27 := ⟨by decide, by
    generalize ((b + 1299709 * (c + 1)) ^ Int.toNat 3 % ((10 : Int) ^ Int.toNat 37 + 43)) = x at hx0 ⊢
    have := bits_le (i := x + 15485863 * (c + 1)) (n := 202) (by omega) (by decide)
    omega⟩
  refine wb_seq (vb_if (wt_look ?_))
  walk_at "wp"
  · rename_i hT
    exact hR (a % many) (a / many) c (Int.emod_nonneg _ (by omega)) (Int.emod_lt_of_pos _ hm) (Int.ediv_nonneg ha (by omega)) (Int.le_refl _) (by omega)
  walk_at "wp"
  exact hR _ a (c + 1) (Int.emod_nonneg _ (by omega)) (Int.emod_lt_of_pos _ hm) ha (by omega) (Int.le_refl _)
end
end K01

set_option Elab.async false
set_option linter.all false
set_option maxRecDepth 100000
set_option maxHeartbeats 4000000
namespace K01
open PySem L2 Evl PySem.Spec PyProof.Rows PW
local macro_rules | `(tactic| walk_at "wp0") => `(tactic| first
  | (with_reducible refine wb_seq ?_) | (with_reducible refine wb_asg ?_) | (with_reducible refine wg_name ?_) | (with_reducible refine wb_ret ?_) | (with_reducible refine vb_if ?_) | (with_reducible refine wb_next ?_) | (with_reducible refine wb_drop ?_) | (with_reducible refine wb_retN ?_)
  | ((with_reducible show WG _ (gTup _ _ _) _ _ _ _); refine wg_tup rfl ?_) | (with_reducible refine wgs_cons ?_) | ((with_reducible show WGs _ (gCons _ _) _ _ _ _); refine wgs_cons ?_) | (with_reducible refine wgs_nil ?_) | ((with_reducible show WGs _ gNil _ _ _ _); refine wgs_nil ?_)
  | ((with_reducible show WE _ (tVar _) _ _ _); refine we_var rfl ?_)
  | (with_reducible refine we_int ?_) | (with_reducible refine we_str ?_) | (with_reducible refine we_bl ?_) | (with_reducible refine we_non ?_)
  | (with_reducible refine we_isi kit_int ?_) | (with_reducible refine we_isi kit_bool ?_) | (with_reducible refine we_isi kit_str ?_) | (with_reducible refine we_isi kit_tup ?_) | (with_reducible refine we_isi kit_lst ?_)
  | ((with_reducible show WE _ (tOp (rIx _) (tVar _) (tC _)) _ _ _); refine we_ixO rfl rfl rfl ?_)
  | ((with_reducible show WE _ (tOp (rCatS _) _ _) _ _ _); refine we_wl (wl_op ?_)) | ((with_reducible refine ol_cat ?s1 ?_); (case s1 => exact len_ok rfl)) | ((with_reducible refine od_catA ?s1 ?_); (case s1 => exact len_ok rfl))
  | (with_reducible refine we_op ?_) | (with_reducible refine we_tup ?_) | (with_reducible refine we_lst ?_) | (with_reducible refine we_pur ?_) | (with_reducible refine we_cb ?_) | (with_reducible refine we_slA ?_)
  | (with_reducible refine we_wl (wl_slL ?_)) | (with_reducible refine wo_none ?_) | (with_reducible refine wo_some ?_)
  | (with_reducible refine wd_cons ?_) | (with_reducible refine wd_nil ?_)
  | (with_reducible refine ve_and ?_) | (with_reducible refine ve_or ?_) | (with_reducible refine ve_not ?_) | (with_reducible refine ve_if ?_)
  | (with_reducible refine vt_and ?_) | (with_reducible refine vt_or ?_) | (with_reducible refine wt_not ?_) | (with_reducible refine wt_testB ?_) | (with_reducible refine wt_truB ?_)
  | (with_reducible refine od_int0 ?_) | ((with_reducible refine od_int ?s1 ?_); (case s1 => first | assumption | decide | exact ⟨by decide, by decide⟩)) | ((with_reducible show OD _ (rIx _) (.list _) (.int _) _); refine od_ix_l rfl ?_) | ((with_reducible show OD _ (rIx _) (.tuple _) (.int _) _); refine od_ix_t rfl ?_) | ((with_reducible show WG _ (gSub (tVar _) _ _) _ _ _ _); refine wg_sub rfl ?_) | (with_reducible refine od_bl0 ?_)
  | ((with_reducible show WE _ (tC _) _ _ _); refine we_con (d := ?wd) ?wc0 ?_; (case wc0 => assumption))
  | (with_reducible refine OD.or1 (od_eqS ?_)) | (with_reducible refine OD.or1 (od_neS ?_)) | (with_reducible refine od_isN ?_) | (with_reducible refine od_notN ?_)
  | ((with_reducible refine OD.or2 (od_eqD ?s1 ?s2 ?_)); (case s1 => first | assumption | exact rfl | decide +kernel); (case s2 => first | assumption | exact rfl | decide +kernel)) | ((with_reducible refine OD.or2 (od_neD ?s1 ?s2 ?_)); (case s1 => first | assumption | exact rfl | decide +kernel); (case s2 => first | assumption | exact rfl | decide +kernel))
  | ((with_reducible refine od_inT ?s1 ?s2 ?_); (case s1 => first | assumption | exact rfl | decide +kernel); (case s2 => first | assumption | exact rfl | decide +kernel)) | ((with_reducible refine od_notInT ?s1 ?s2 ?_); (case s1 => first | assumption | exact rfl | decide +kernel); (case s2 => first | assumption | exact rfl | decide +kernel))
  | (with_reducible refine cd_abs ?_) | (with_reducible refine cd_int ?_) | (with_reducible refine cd_max2 ?_) | (with_reducible refine cd_min2 ?_) | (with_reducible refine cd_lenL ?_) | (with_reducible refine cd_lenT ?_)
  | (with_reducible refine And.intro (fun hT => ?_) (fun hT => ?_))
  | ((with_reducible refine Exists.intro ?wc (And.intro ?we ?_)); (case we => exact rfl))
  | ((with_reducible show ∃ (_ : Int) (_ : Nat) (_ : List D), _); refine ⟨_, _, _, rfl, rfl, rfl, ?_⟩)
  | ((with_reducible refine And.intro ?we ?_); (case we => first | exact rfl | exact trivial | exact len_ok rfl | exact ⟨_, rfl⟩ | exact ⟨_, _, rfl⟩ | exact ⟨_, _, rfl, rfl⟩ | exact ⟨_, _, _, rfl⟩ | exact ⟨_, rfl, by assumption⟩ | exact ⟨_, by assumption, rfl⟩ | assumption)))
local macro_rules | `(tactic| walk_at "wp") => `(tactic| repeat' (first | walk_at "wp0" | fail))

section
variable {P : Program} {w : World} {K : Fg} {mg : Str → Option Value} {base : Heap}
def reelS : FL := fun ds R => ∃ (ns : List Int) (i : Int), ds = [.list (ns.map .int), .int i] ∧ 0 ≤ i ∧ i < 1000 ∧ ∀ a b, 0 ≤ a → 0 ≤ b → b < 2 ^ 200 → R [.int a, .int b, .int 0]
theorem ok_reel (T : Tx K mg) : FnG P w K mg base 1 T.f_law_reel T.d_law_reel ["script", "index"] (SpL K reelS) := by
  refine fg_lst T.F_law_reel sc_law_reel (fun ds R h => ?_) fun cdv A outer s H E hr hg => ⟨_, (pss_cons (ps_set (i := 2) sc_law_reel.nd rfl (Or.inl rfl) (pe_ifExp (pt_cmpR op_lt (pv 1) (pe_callB call_lenD (by rfl) T.n_len (by decide +kernel) (pa_cons (pv 0) pa_nil)) (nomark _)) (pe_ix ix_seq (pv 0) (pv 1) (fun _ _ => rfl)) pe_int)) (pss_one (ps_ret (pe_lst (pa_cons (pe_callB (call_max2 rfl) (by rfl) T.n_max (by decide +kernel) (pa_cons pe_int (pa_cons (pe_op op_sub (pe_callB call_abs (by rfl) T.n_abs (by decide +kernel) (pa_cons (pv 2) pa_nil)) (pe_op op_powW pe_int pe_int)) pa_nil))) (pa_cons (pe_op op_add (pe_op op_mod (pe_callTy call_int1 (by rfl) T.n_int (by decide +kernel) (pa_cons (pv 2) pa_nil)) (pe_op op_add (pe_op op_powW pe_int pe_int) pe_int)) (pe_op op_mulW pe_int (pe_op op_add (pv 1) pe_int))) (pa_cons pe_int pa_nil))))))), fun ds R h => ?_⟩
  · obtain ⟨ns, i, rfl, _⟩ := h
    rfl
  try simp only [nox_K, cxo_K]
  obtain ⟨ns, i, rfl, hi0, hi1, hR⟩ := h
  have hw : CMulW 86028157 (i + 1) := wide_mul (a := 27) (b := 61) (by decide) (by omega) (by decide) (by decide) (by decide)
  have fin : ∀ c : Int, R [.int (if (if c < 0 then -c else c) - 10 ^ Int.toNat 18 > (0 : Int) then (if c < 0 then -c else c) - 10 ^ Int.toNat 18 else 0), .int (c % (10 ^ Int.toNat 35 + 69) + 86028157 * (i + 1)), .int 0] := fun c => by
    have h1 := Int.emod_nonneg c (b := 10 ^ Int.toNat 35 + 69) (by decide)
    have h2 := Int.emod_lt_of_pos c (b := 10 ^ Int.toNat 35 + 69) (by decide)
    refine hR _ _ ?_ ?_ ?_
    · generalize (if c < 0 then -c else c) - 10 ^ Int.toNat 18 = z
      split <;> omega
    · omega
    · refine Int.lt_trans (b := 10 ^ Int.toNat 35 + 69 + 86028157 * 1002) ?_ (by decide)
      generalize (10 ^ Int.toNat 35 + 69 : Int) = z at *
      omega
  refine wbl_seq ?_
  walk_at "wp"
  · rename_i hT
    have hi : i < (ns.map PyData.int).length := by simpa using hT
    have e : atI (ns.map PyData.int) i = some (.int (ns.getD i.toNat 0)) := by
      unfold atI ixN
      have hn : i.toNat < ns.length := by simp at hi; omega
      rw [if_pos hi0, if_pos hi]
      simp [hn]
    refine od_ix_l e ?_
    walk_at "wp"
    refine wbl_ret (wl_lst ?_)
    walk_at "wp"
    exact fin _
  · refine wbl_ret (wl_lst ?_)
    walk_at "wp"
    exact fin _
end
end K01

set_option Elab.async false
set_option linter.all false
set_option maxRecDepth 100000
set_option maxHeartbeats 4000000
namespace K01
open PySem L2 Evl PySem.Spec PyProof.Rows PW
local macro_rules | `(tactic| walk_at "wp0") => `(tactic| first
  | (with_reducible refine wb_seq ?_) | (with_reducible refine wb_asg ?_) | (with_reducible refine wg_name ?_) | (with_reducible refine wb_ret ?_) | (with_reducible refine vb_if ?_) | (with_reducible refine wb_next ?_) | (with_reducible refine wb_drop ?_) | (with_reducible refine wb_retN ?_)
  | ((with_reducible show WG _ (gTup _ _ _) _ _ _ _); refine wg_tup rfl ?_) | (with_reducible refine wgs_cons ?_) | ((with_reducible show WGs _ (gCons _ _) _ _ _ _); refine wgs_cons ?_) | (with_reducible refine wgs_nil ?_) | ((with_reducible show WGs _ gNil _ _ _ _); refine wgs_nil ?_)
  | ((with_reducible show WE _ (tVar _) _ _ _); refine we_var rfl ?_)
  | (with_reducible refine we_int ?_) | (with_reducible refine we_str ?_) | (with_reducible refine we_bl ?_) | (with_reducible refine we_non ?_)
  | (with_reducible refine we_isi kit_int ?_) | (with_reducible refine we_isi kit_bool ?_) | (with_reducible refine we_isi kit_str ?_) | (with_reducible refine we_isi kit_tup ?_) | (with_reducible refine we_isi kit_lst ?_)
  | ((with_reducible show WE _ (tOp (rIx _) (tVar _) (tC _)) _ _ _); refine we_ixO rfl rfl rfl ?_)
  | ((with_reducible show WE _ (tOp (rCatS _) _ _) _ _ _); refine we_wl (wl_op ?_)) | ((with_reducible refine ol_cat ?s1 ?_); (case s1 => exact len_ok rfl)) | ((with_reducible refine od_catA ?s1 ?_); (case s1 => exact len_ok rfl))
  | (with_reducible refine we_op ?_) | (with_reducible refine we_tup ?_) | (with_reducible refine we_lst ?_) | (with_reducible refine we_pur ?_) | (with_reducible refine we_cb ?_) | (with_reducible refine we_slA ?_)
  | (with_reducible refine we_wl (wl_slL ?_)) | (with_reducible refine wo_none ?_) | (with_reducible refine wo_some ?_)
  | (with_reducible refine wd_cons ?_) | (with_reducible refine wd_nil ?_)
  | (with_reducible refine ve_and ?_) | (with_reducible refine ve_or ?_) | (with_reducible refine ve_not ?_) | (with_reducible refine ve_if ?_)
  | (with_reducible refine vt_and ?_) | (with_reducible refine vt_or ?_) | (with_reducible refine wt_not ?_) | (with_reducible refine wt_testB ?_) | (with_reducible refine wt_truB ?_)
  | (with_reducible refine od_int0 ?_) | ((with_reducible refine od_int ?s1 ?_); (case s1 => first | assumption | decide | exact ⟨by decide, by decide⟩)) | ((with_reducible show OD _ (rIx _) (.list _) (.int _) _); refine od_ix_l rfl ?_) | ((with_reducible show OD _ (rIx _) (.tuple _) (.int _) _); refine od_ix_t rfl ?_) | ((with_reducible show WG _ (gSub (tVar _) _ _) _ _ _ _); refine wg_sub rfl ?_) | (with_reducible refine od_bl0 ?_)
  | ((with_reducible show WE _ (tC _) _ _ _); refine we_con (d := ?wd) ?wc0 ?_; (case wc0 => assumption))
  | (with_reducible refine OD.or1 (od_eqS ?_)) | (with_reducible refine OD.or1 (od_neS ?_)) | (with_reducible refine od_isN ?_) | (with_reducible refine od_notN ?_)
  | ((with_reducible refine OD.or2 (od_eqD ?s1 ?s2 ?_)); (case s1 => first | assumption | exact rfl | decide +kernel); (case s2 => first | assumption | exact rfl | decide +kernel)) | ((with_reducible refine OD.or2 (od_neD ?s1 ?s2 ?_)); (case s1 => first | assumption | exact rfl | decide +kernel); (case s2 => first | assumption | exact rfl | decide +kernel))
  | ((with_reducible refine od_inT ?s1 ?s2 ?_); (case s1 => first | assumption | exact rfl | decide +kernel); (case s2 => first | assumption | exact rfl | decide +kernel)) | ((with_reducible refine od_notInT ?s1 ?s2 ?_); (case s1 => first | assumption | exact rfl | decide +kernel); (case s2 => first | assumption | exact rfl | decide +kernel))
  | (with_reducible refine cd_abs ?_) | (with_reducible refine cd_int ?_) | (with_reducible refine cd_max2 ?_) | (with_reducible refine cd_min2 ?_) | (with_reducible refine cd_lenL ?_) | (with_reducible refine cd_lenT ?_)
  | (with_reducible refine And.intro (fun hT => ?_) (fun hT => ?_))
  | ((with_reducible refine Exists.intro ?wc (And.intro ?we ?_)); (case we => exact rfl))
  | ((with_reducible show ∃ (_ : Int) (_ : Nat) (_ : List D), _); refine ⟨_, _, _, rfl, rfl, rfl, ?_⟩)
  | ((with_reducible refine And.intro ?we ?_); (case we => first | exact rfl | exact trivial | exact len_ok rfl | exact ⟨_, rfl⟩ | exact ⟨_, _, rfl⟩ | exact ⟨_, _, rfl, rfl⟩ | exact ⟨_, _, _, rfl⟩ | exact ⟨_, rfl, by assumption⟩ | exact ⟨_, by assumption, rfl⟩ | assumption)))
local macro_rules | `(tactic| walk_at "wp") => `(tactic| repeat' (first | walk_at "wp0" | fail))

section
variable {P : Program} {w : World} {K : Fg} {mg : Str → Option Value} {base : Heap}
section
variable {δ : Dl} {M : Ms} {R : D → Ms → Prop} {ts : TA} {E : XK}
theorem we_spin {i k : Nat} (ho : δ[i]? = some (some (.own k))) (h : WD K ts δ M fun ds M1 => ∃ a b c many : Int, ds = [.int many] ∧ M1[k]? = some (.lst [.int a, .int b, .int c]) ∧ 0 ≤ a ∧ 0 ≤ b ∧ b < 2 ^ 200 ∧ 0 ≤ c ∧ c < 2 ^ 60 ∧ 0 < many ∧ many < 2 ^ 400 ∧
    ∀ z a' c' : Int, 0 ≤ z → z < many → 0 ≤ a' → c ≤ c' → c' ≤ c + 1 → R (.int z) (M1.set k (.lst [.int a', .int b, .int c']))) : WE K (tCall (SpF K spinS) [] E (tCons (tVar i) ts)) δ M R :=
  we_callO ho (wd_mono h fun ds M1 q => by
    obtain ⟨a, b, c, many, rfl, hm, h1, h2, h3, h4, h5, h6, h7, hR⟩ := q
    refine ⟨_, hm, a, b, c, many, rfl, rfl, h1, h2, h3, h4, h5, h6, h7, fun z a' c' q1 q2 q3 q4 q5 m' e => ?_⟩
    cases e
    exact hR z a' c' q1 q2 q3 q4 q5)
end
local macro_rules | `(tactic| walk_at "sp0") => `(tactic| first
  | (with_reducible refine we_spin rfl ?_)
  | ((with_reducible show ∃ (_ _ _ _ : Int), _); refine ⟨_, _, _, _, rfl, rfl, by first | assumption | omega, by first | assumption | omega, by first | assumption | omega, by first | assumption | omega, by first | assumption | omega, by first | assumption | omega, by first | assumption | omega, fun z a' c' hz0 hz1 ha' hc1 hc2 => ?_⟩)
  | (with_reducible refine wb_par ?_) | (with_reducible refine comp_yes (wc_name (by decide) ?_)) | (with_reducible refine comp_nil ?_)
  | ((with_reducible refine And.intro ?we ?_); (case we => first | exact lt_ok rfl))
  | walk_at "wp0")
local macro_rules | `(tactic| walk_at "sp") => `(tactic| repeat' (first | walk_at "sp0" | fail))
/-- _law_rules: right rules, none of their numbers beyond 5 * most -/
def rulesS : FS := fun cs M R => ∃ a b c most : Int, cs = [.own 0, .dat (.int most)] ∧ M = [.lst [.int a, .int b, .int c]] ∧ 0 ≤ a ∧ 0 ≤ b ∧ b < 2 ^ 200 ∧ 0 ≤ c ∧ c < 2 ^ 59 ∧ 0 < most ∧ most ≤ 10 ^ 29 ∧
  ∀ (r : Ru) (a' c' : Int), r.Ok → r.s ≤ most → r.l ≤ most → r.p ≤ most → r.d ≤ 5 * most → 0 ≤ a' → c ≤ c' → c' ≤ c + 10 → R r.dat [.lst [.int a', .int b, .int c']]
theorem ok_rules (T : Tx K mg) : FnG P w K mg base 2 T.f_law_rules T.d_law_rules ["reel", "most"] (SpF K rulesS) := by
  have G_law_spin := ok_spin (P := P) (w := w) (base := base) T
  refine fgok T.F_law_rules sc_law_rules (fun cs M R h => ?_) fun cdv A outer s H E hr hg => ⟨_, (pss_cons (ps_setLc (i := 2) (own := [("turn", 6)]) rfl sc_law_rules.nd rfl rfl (sw_true rfl rfl rfl (by decide +kernel)) (pi_range1 rfl T.n_range (pa_cons pe_int pa_nil)) (blkOk_by (own := [("turn", 6)]) (N := ["reel", "most", "some", "deafs", "low", "high", "turn"]) (sc := defScope s_law_rules) (by decide +kernel)) (fun _ _ _ _ _ => (pg_name (i := 6) sc_law_rules.nd rfl (Or.inl rfl))) (fun _ _ _ _ _ => pts_nil) (fun _ _ _ _ _ => (pe_op op_add pe_int (pg_call G_law_spin (hr.mono (by decide)) hg rfl T.m_law_spin T.F_law_spin.kp T.b_law_spin (pa_cons (pv 0) (pa_cons (pv 1) pa_nil)))))) (pss_cons (ps_if (pt_cmpR (op_eq.or (op_eqD (u65 hr))) (pg_call G_law_spin (hr.mono (by decide)) hg rfl T.m_law_spin T.F_law_spin.kp T.b_law_spin (pa_cons (pv 0) (pa_cons pe_int pa_nil))) pe_int (nomark _)) (pss_one (ps_asg (pe_ix ix_seq (pv 2) pe_int (fun _ _ => rfl)) (pg_sub (pv 2) pe_int set_list))) pss_nil) (pss_cons (ps_par (i := 4) (j := 5) (by rfl) sc_law_rules.nd rfl rfl (by decide) rfl rfl (pa_cons (pe_op op_add (pe_callB (cr_min rfl) (by rfl) T.n_min (by decide +kernel) (pa_cons (pe_slice sl_list (pv 2) po_none (po_some pe_int)) pa_nil)) (pe_ix ix_seq (pv 2) pe_int (fun _ _ => rfl))) (pa_cons (pe_op op_add (pe_callB (cr_max rfl) (by rfl) T.n_max (by decide +kernel) (pa_cons (pe_slice sl_list (pv 2) po_none (po_some pe_int)) pa_nil)) (pe_ix ix_seq (pv 2) pe_int (fun _ _ => rfl))) pa_nil)) (by rfl)) (pss_cons (ps_set (i := 3) sc_law_rules.nd rfl (Or.inl rfl) (pe_lst (pa_cons pe_int (pa_cons pe_int (pa_cons pe_int (pa_cons (pg_call G_law_spin (hr.mono (by decide)) hg rfl T.m_law_spin T.F_law_spin.kp T.b_law_spin (pa_cons (pv 0) (pa_cons (pv 4) pa_nil))) (pa_cons (pe_op op_add (pv 4) (pg_call G_law_spin (hr.mono (by decide)) hg rfl T.m_law_spin T.F_law_spin.kp T.b_law_spin (pa_cons (pv 0) (pa_cons (pe_op op_add (pe_op op_sub (pv 5) (pv 4)) pe_int) pa_nil)))) (pa_cons (pe_op op_sub (pv 4) pe_int) (pa_cons (pv 4) (pa_cons (pe_op op_sub (pv 5) pe_int) (pa_cons (pv 5) pa_nil))))))))))) (pss_cons (ps_expr (pe_bm PySem.F.plainAttrs_list PySem.F.slot_list_append PySem.F.type_list_append mt_append (pv 2) (pa_cons (pe_ix ix_seq (pe_op op_catS (pv 3) (pe_lst (pa_cons (pe_op op_add (pv 5) pe_int) pa_nil))) (pg_call G_law_spin (hr.mono (by decide)) hg rfl T.m_law_spin T.F_law_spin.kp T.b_law_spin (pa_cons (pv 0) (pa_cons pe_int pa_nil))) (fun _ _ => rfl)) pa_nil))) (pss_cons (ps_set (i := 2) sc_law_rules.nd rfl (Or.inl rfl) (pe_op op_catS (pv 2) (pe_lst (pa_cons (pe_ix ix_seq (pe_lst (pa_cons pe_str (pa_cons pe_str (pa_cons pe_str pa_nil)))) (pg_call G_law_spin (hr.mono (by decide)) hg rfl T.m_law_spin T.F_law_spin.kp T.b_law_spin (pa_cons (pv 0) (pa_cons pe_int pa_nil))) (fun _ _ => rfl)) (pa_cons (pe_cmpR (op_eq.or (op_eqD (u65 hr))) (pg_call G_law_spin (hr.mono (by decide)) hg rfl T.m_law_spin T.F_law_spin.kp T.b_law_spin (pa_cons (pv 0) (pa_cons pe_int pa_nil))) pe_int (nomark _)) pa_nil))))) (pss_one (ps_ret (pe_callTy call_tuple_of (by rfl) T.n_tuple (by decide +kernel) (pa_cons (pe_op op_catS (pv 2) (pe_lst (pa_cons (pe_ix ix_seq (pe_lst (pa_cons pe_str (pa_cons pe_str (pa_cons pe_str (pa_cons pe_str pa_nil))))) (pg_call G_law_spin (hr.mono (by decide)) hg rfl T.m_law_spin T.F_law_spin.kp T.b_law_spin (pa_cons (pv 0) (pa_cons pe_int pa_nil))) (fun _ _ => rfl)) pa_nil))) pa_nil)))))))))), fun cs M R h => ?_⟩
  · obtain ⟨a, b, c, most, rfl, _⟩ := h
    rfl
  try simp only [nox_K, cxo_K]
  obtain ⟨a, b, c, most, rfl, rfl, ha, hb, hb2, hc, hc2, hm, hm2, hR⟩ := h
  let Mid : Int → Dl → Ms → Prop := fun n δ' M' => ∃ s l p a' c' : Int, δ' = [some (.own 0), some (.dat (.int most)), some (.own 1), none, none, none, none] ∧ M' = [.lst [.int a', .int b, .int c'], .lst [.int s, .int l, .int p]] ∧
    1 ≤ s ∧ s ≤ most ∧ 1 ≤ l ∧ l ≤ most ∧ 1 ≤ p ∧ p ≤ most ∧ 0 ≤ a' ∧ c ≤ c' ∧ c' ≤ c + n
  refine wb_seq (wb_cut (Mid 3) (wb_asgO (wl_lcR1 ?_)) ?_)
  · walk_at "wp"
    refine ⟨by decide, by decide, ?_⟩
    show comp K _ _ _ _ [.int 0, .int 1, .int 2] _ _ _ _
    walk_at "sp"
    exact ⟨_, _, _, _, _, rfl, rfl, by omega, by omega, by omega, by omega, by omega, by omega, by omega, by omega, by omega⟩
  rintro _ _ ⟨s, l, p, a1, c1, rfl, rfl, hs1, hs2, hl1, hl2, hp1, hp2, ha1, hc1, hc3⟩
  refine wb_seq (wb_cut (Mid 4) ?_ ?_)
  · walk_at "sp"
    · exact ⟨_, _, _, _, _, rfl, rfl, by omega, by omega, by omega, by omega, by omega, by omega, by omega, by omega, by omega⟩
    · exact ⟨_, _, _, _, _, rfl, rfl, by omega, by omega, by omega, by omega, by omega, by omega, by omega, by omega, by omega⟩
  clear hs1 hs2 hl1 hl2 hp1 hp2 ha1 hc1 hc3
  rintro _ _ ⟨s, l, p, a1, c1, rfl, rfl, hs1, hs2, hl1, hl2, hp1, hp2, ha1, hc1, hc3⟩
  refine wb_seq (wb_par (wd_cons (we_look ?_)))
  walk_at "sp"
  refine cd_minL (ns := [s, l]) (by simp) fun lo hlo1 hlo2 => ?_
  refine we_op (we_var rfl (we_int (od_ix_l rfl (od_int0 ⟨rfl, wd_cons (we_look ?_)⟩))))
  walk_at "wp"
  refine cd_maxL (ns := [s, l]) (by simp) fun hi hhi1 hhi2 => ?_
  have q1 := hlo2 s (by simp)
  have q2 := hlo2 l (by simp)
  have q3 := hhi2 s (by simp)
  have q4 := hhi2 l (by simp)
  have q5 : lo = s ∨ lo = l := by simpa using hlo1
  have q6 : hi = s ∨ hi = l := by simpa using hhi1
  have q7 : 1 ≤ lo := by omega
  have q8 : hi ≤ most := by omega
  clear hlo1 hlo2 hhi1 hhi2
  walk_at "wp"
  refine ⟨_, _, rfl, ?_⟩
  refine wb_seq (wb_cut (fun δ' M' => ∃ d3 d4 a' c' : Int, δ' = [some (.own 0), some (.dat (.int most)), some (.own 1), some (.dat (.list ([0, 0, 1, d3, d4, lo + p - 1, lo + p, hi + p - 1, hi + p].map .int))), some (.dat (.int (lo + p))), some (.dat (.int (hi + p))), none] ∧ M' = [.lst [.int a', .int b, .int c'], .lst [.int s, .int l, .int p]] ∧
    0 ≤ d3 ∧ d3 < lo + p ∧ 0 ≤ d4 ∧ d4 ≤ hi + p ∧ 0 ≤ a' ∧ c ≤ c' ∧ c' ≤ c + 6) ?_ ?_)
  · walk_at "sp"
    exact ⟨_, _, _, _, rfl, rfl, by omega, by omega, by omega, by omega, by omega, by omega, by omega⟩
  clear ha1 hc1 hc3
  rintro _ _ ⟨d3, d4, a1, c1, rfl, rfl, hd1, hd2, hd3, hd4, ha1, hc1, hc3⟩
  refine wb_seq (wb_app rfl rfl ?_)
  walk_at "sp"
  refine od_ixA (by assumption) (by simpa using (by assumption)) fun d hd => ?_
  have hd' : ∃ n : Int, d = .int n ∧ 0 ≤ n ∧ n ≤ 5 * most := by
    simp only [List.map, List.cons_append, List.nil_append, List.mem_cons, List.not_mem_nil, or_false] at hd
    rcases hd with h | h | h | h | h | h | h | h | h | h <;> exact ⟨_, h, by omega, by omega⟩
  clear hd
  obtain ⟨dd, rfl, hn1, hn2⟩ := hd'
  refine ⟨_, rfl, lt_ok rfl, ?_⟩
  refine wb_frz (i := 2) (k := 1) rfl rfl (Nat.le_refl _) ?_
  walk_at "sp"
  refine od_ixW ["none", "press", "held"] (by assumption) (by assumption) fun rem hrem => ?_
  walk_at "sp"
  refine od_ixW ["turn", "stay", "s", "l"] (by assumption) (by assumption) fun bo hbo => ?_
  walk_at "sp"
  refine cd_tupL ?_
  refine hR ⟨s, l, p, dd, rem, _, bo⟩ _ _ ⟨hs1, hl1, hp1, hn1, by simpa using hrem, by simpa using hbo⟩ hs2 hl2 hp2 hn2 ?_ ?_ ?_
  all_goals omega
end
end K01

set_option Elab.async false
set_option linter.all false
set_option maxRecDepth 100000
set_option maxHeartbeats 4000000
set_option exponentiation.threshold 500
namespace K01
open PySem L2 Evl PySem.Spec PyProof.Rows PW
theorem int_short {i : Int} (h0 : 0 ≤ i) (h1 : i < 2 ^ 400) : (PyData.int i).shown.length ≤ 400 := by
  obtain ⟨n, rfl⟩ := Int.eq_ofNat_of_zero_le h0
  rw [PyData.shown.eq_3]
  have e : toString (n : Int) = n.repr := rfl
  rw [e, PySem.ofString_length]
  exact nat_repr_length_le (by decide) (by exact_mod_cast h1)
theorem int_fits {i : Int} (h0 : 0 ≤ i) (h1 : i < 2 ^ 400) : PyData.leavesShort 400 (.int i) = true ∧ (PyData.int i).weight ≤ 400 ∧ (PyData.int i).showable = true := by
  have h2 : i.natAbs < 2 ^ 400 := by omega
  have h3 := Flt.log2_lt_of (by decide) h2
  refine ⟨?_, ?_, ?_⟩
  · rw [PyData.leavesShort.eq_3]; exact decide_eq_true (int_short h0 h1)
  · rw [PyData.weight.eq_5]; split <;> omega
  · rw [PyData.showable.eq_4]; exact decide_eq_true (by omega)
/-- data that is surely shown -/
structure Fits (n k : Nat) (d : PyData) : Prop where
  lv : PyData.leavesShort 400 d = true
  wt : d.weight ≤ n
  able : d.showable = true
  dep : d.depth ≤ k
theorem fits_int {i : Int} (h0 : 0 ≤ i) (h1 : i < 2 ^ 400) : Fits 400 0 (.int i) :=
  ⟨(int_fits h0 h1).1, (int_fits h0 h1).2.1, (int_fits h0 h1).2.2, by simp [PyData.depth]⟩
theorem fits_word {x : Str} (h : x = "none" ∨ x = "press" ∨ x = "held" ∨ x = "turn" ∨ x = "stay" ∨ x = "s" ∨ x = "l") : Fits 5 0 (.str x) := by
  rcases h with e | e | e | e | e | e | e <;> rw [e] <;> exact ⟨by decide +kernel, by decide +kernel, by decide +kernel, by decide +kernel⟩
theorem fits_bool (b : Bool) : Fits 0 0 (.bool b) := by
  cases b <;> exact ⟨by decide +kernel, by decide +kernel, by decide +kernel, by decide +kernel⟩
structure FitsA (n k : Nat) (ds : List PyData) : Prop where
  lv : PyData.leavesShortAll 400 ds = true
  wt : PyData.weightAll ds ≤ n
  able : PyData.showableAll ds = true
  dep : PyData.depthAll ds ≤ k
theorem fits_nil {k : Nat} : FitsA 0 k [] := ⟨by simp [PyData.leavesShortAll], by simp [PyData.weightAll], by simp [PyData.showableAll], by simp [PyData.depthAll]⟩
theorem fits_cons {n m k k' : Nat} {d : PyData} {ds : List PyData} (a : Fits n k' d) (b : FitsA m k ds) (h : k' ≤ k) : FitsA (n + 1 + m) k (d :: ds) :=
  ⟨by rw [PyData.leavesShortAll.eq_2, a.lv, b.lv]; rfl, by rw [PyData.weightAll.eq_2]; have := a.wt; have := b.wt; omega, by rw [PyData.showableAll.eq_2, a.able, b.able]; rfl, by rw [PyData.depthAll.eq_2]; have := a.dep; have := b.dep; omega⟩
theorem fits_list {n k : Nat} {ds : List PyData} (b : FitsA n k ds) : Fits n (k + 1) (.list ds) :=
  ⟨by simpa [PyData.leavesShort] using b.lv, by simpa [PyData.weight] using b.wt, by simpa [PyData.showable] using b.able, by have := b.dep; simp [PyData.depth]; omega⟩
theorem fits_tup {n k : Nat} {ds : List PyData} (b : FitsA n k ds) : Fits n (k + 1) (.tuple ds) :=
  ⟨by simpa [PyData.leavesShort] using b.lv, by simpa [PyData.weight] using b.wt, by simpa [PyData.showable] using b.able, by have := b.dep; simp [PyData.depth]; omega⟩
theorem fits_short {n k : Nat} {d : PyData} (a : Fits n k d) (h : n ≤ 40000) : d.shown.length ≤ sizeLine := by
  have := PyData.shown_le 400 (by decide) d a.lv
  have h2 : (400 + 2) * d.weight ≤ 402 * 40000 := Nat.mul_le_mul_left _ (Nat.le_trans a.wt h)
  have h3 : 402 * 40000 + 400 ≤ sizeLine := by rw [sizeLine_eq]; decide
  omega
theorem fits_up {n n' k k' : Nat} {d : PyData} (a : Fits n k d) (h : n ≤ n') (g : k ≤ k') : Fits n' k' d := ⟨a.lv, Nat.le_trans a.wt h, a.able, Nat.le_trans a.dep g⟩
theorem fitsA_of {n k : Nat} : ∀ {ds : List PyData}, (∀ d ∈ ds, Fits n k d) → FitsA ((n + 1) * ds.length) k ds
  | [], _ => fits_nil
  | d :: ds, h => by
    have a := fits_cons (h d (by simp)) (fitsA_of (ds := ds) fun x hx => h x (by simp [hx])) (Nat.le_refl k)
    have e : (n + 1) * (d :: ds).length = n + 1 + (n + 1) * ds.length := by simp [Nat.mul_add, Nat.mul_succ]; omega
    rw [e]
    exact a
theorem noDA : ∀ {ds : List PyData}, (∀ d ∈ ds, d.hasDict = false) → PyData.hasDictAll ds = false
  | [], _ => by simp only [PyData.hasDictAll]
  | d :: ds, h => by simp only [PyData.hasDictAll, h d (by simp), noDA (ds := ds) fun x hx => h x (by simp [hx]), Bool.or_self]
theorem noLA : ∀ {ds : List PyData}, (∀ d ∈ ds, noL d = true) → noLs ds = true
  | [], _ => by simp only [noLs]
  | d :: ds, h => by simp only [noLs, h d (by simp), noLA (ds := ds) fun x hx => h x (by simp [hx]), Bool.and_self]
/-- a value of a law that can be shown -/
structure OkV (d : PyData) : Prop where
  ft : Fits 2000 3 d
  one : d.hasDict = false ∨ noL d = true
theorem OkV.shw {d : PyData} (h : OkV d) : Shw d := ⟨h.one, h.ft.able, Nat.le_trans h.ft.dep (by decide), fits_short h.ft (by decide)⟩
theorem shw_tup {xs : List PyData} (h : ∀ x ∈ xs, Fits 2000 3 x) (hl : xs.length ≤ 19) (one : (∀ x ∈ xs, x.hasDict = false) ∨ ∀ x ∈ xs, noL x = true) : Shw (.tuple xs) := by
  have a := fits_tup (fitsA_of h)
  refine ⟨?_, a.able, Nat.le_trans a.dep (by decide), fits_short a ?_⟩
  · rcases one with y | y
    · left; simp only [PyData.hasDict]; exact noDA y
    · right; simp only [noL]; exact noLA y
  · have : 2001 * xs.length ≤ 2001 * 19 := Nat.mul_le_mul_left _ hl
    omega
theorem shw_list {xs : List PyData} (h : ∀ x ∈ xs, Fits 2000 3 x) (hl : xs.length ≤ 19) (one : ∀ x ∈ xs, x.hasDict = false) : Shw (.list xs) := by
  have a := fits_list (fitsA_of h)
  refine ⟨.inl ?_, a.able, Nat.le_trans a.dep (by decide), fits_short a ?_⟩
  · simp only [PyData.hasDict]; exact noDA one
  · have : 2001 * xs.length ≤ 2001 * 19 := Nat.mul_le_mul_left _ hl
    omega
/-- a leaf of moderate size -/
structure Leaf (d : PyData) : Prop where
  ft : Fits 500 0 d
  nd : d.hasDict = false
  nl : noL d = true
theorem leaf_int {i : Int} (h0 : 0 ≤ i) (h1 : i < 2 ^ 400) : Leaf (.int i) := ⟨fits_up (fits_int h0 h1) (by decide) (by decide), by simp only [PyData.hasDict], by simp only [noL]⟩
theorem leaf_bool (b : Bool) : Leaf (.bool b) := ⟨fits_up (fits_bool b) (by decide) (by decide), by simp only [PyData.hasDict], by simp only [noL]⟩
theorem leaf_word {x : Str} (h : x = "none" ∨ x = "press" ∨ x = "held" ∨ x = "turn" ∨ x = "stay" ∨ x = "s" ∨ x = "l") : Leaf (.str x) := ⟨fits_up (fits_word h) (by decide) (by decide), by simp only [PyData.hasDict], by simp only [noL]⟩
theorem Leaf.ok {d : PyData} (h : Leaf d) : OkV d := ⟨fits_up h.ft (by decide) (by decide), .inl h.nd⟩
/-- the items of rules -/
abbrev itemsR (r : Ru) : List D := [.int r.s, .int r.l, .int r.p, .int r.d, .str r.rem, .bool r.ag, .str r.bo]
structure Ru.Bd (r : Ru) : Prop where
  s : r.s ≤ 10 ^ 31
  l : r.l ≤ 10 ^ 31
  p : r.p ≤ 10 ^ 31
  d : r.d ≤ 10 ^ 31
theorem leaf_items {r : Ru} (h : r.Ok) (b : r.Bd) : ∀ x ∈ itemsR r, Leaf x := by
  have h31 : (10 : Int) ^ 31 < 2 ^ 400 := by decide
  have o1 := h.s
  have o2 := h.l
  have o3 := h.p
  have b1 := b.s
  have b2 := b.l
  have b3 := b.p
  have b4 := b.d
  intro x hx
  simp only [itemsR, List.mem_cons, List.not_mem_nil, or_false] at hx
  rcases hx with e | e | e | e | e | e | e <;> rw [e]
  · exact leaf_int (by omega) (by omega)
  · exact leaf_int (by omega) (by omega)
  · exact leaf_int (by omega) (by omega)
  · exact leaf_int h.d (by omega)
  · exact leaf_word (by rcases h.rem with e | e | e <;> simp [e])
  · exact leaf_bool _
  · exact leaf_word (by rcases h.bo with e | e | e | e <;> simp [e])
theorem shw_leafs {xs : List PyData} (h : ∀ x ∈ xs, Leaf x) (hl : xs.length ≤ 19) : Shw (.tuple xs) :=
  shw_tup (fun x hx => (h x hx).ok.ft) hl (.inl fun x hx => (h x hx).nd)
theorem shw_leafsL {xs : List PyData} (h : ∀ x ∈ xs, Leaf x) (hl : xs.length ≤ 19) : Shw (.list xs) :=
  shw_list (fun x hx => (h x hx).ok.ft) hl (fun x hx => (h x hx).nd)
theorem shw_odd {xs ys : List PyData} {o : PyData} (h : ∀ x ∈ xs, Leaf x) (g : ∀ x ∈ ys, Leaf x) (k : OkV o) (hl : xs.length ≤ 7) (gl : ys.length ≤ 7) : Shw (.tuple (xs ++ [o] ++ ys)) := by
  have mem : ∀ x ∈ xs ++ [o] ++ ys, Leaf x ∨ x = o := fun x hx => by
    rcases List.mem_append.mp hx with hx | hx
    · rcases List.mem_append.mp hx with hx | hx
      · exact .inl (h x hx)
      · exact .inr (List.mem_singleton.mp hx)
    · exact .inl (g x hx)
  refine shw_tup (fun x hx => ?_) (by simp; omega) ?_
  · rcases mem x hx with e | e
    · exact e.ok.ft
    · rw [e]; exact k.ft
  · rcases k.one with y | y
    · refine .inl fun x hx => ?_
      rcases mem x hx with e | e
      · exact e.nd
      · rw [e]; exact y
    · refine .inr fun x hx => ?_
      rcases mem x hx with e | e
      · exact e.nl
      · rw [e]; exact y
def okB (d : PyData) : Bool := PyData.leavesShort 400 d && decide (d.weight ≤ 2000) && d.showable && decide (d.depth ≤ 3) && (!d.hasDict || noL d)
theorem okB_ok {d : PyData} (h : okB d = true) : OkV d := by
  simp only [okB, Bool.and_eq_true, Bool.or_eq_true, decide_eq_true_eq, Bool.not_eq_true'] at h
  exact ⟨⟨h.1.1.1.1, h.1.1.1.2, h.1.1.2, h.1.2⟩, h.2⟩
theorem okB_all {ds : List PyData} (h : ds.all okB = true) : ∀ d ∈ ds, OkV d := fun d hd => okB_ok (List.all_eq_true.mp h d hd)
abbrev odds1 : List D := [.int 0, .int 1, .int (-1), .int 2, .int (10 ^ Int.toNat 29), .bool true, .bool false, .none, .str "none", .str "press", .str "held", .str "turn", .str "stay", .str "s", .str "l", .str "sl", .str "S"]
abbrev odds2 : List D := [.str "", .str "1", .tuple [], .list [], .dict [], .tuple [.int 1], .list [.str "s"], .str " none", .str "Held", .str "hold"]
theorem odds1_ok : ∀ d ∈ odds1, OkV d := okB_all (by decide +kernel)
theorem odds2_ok : ∀ d ∈ odds2, OkV d := okB_all (by decide +kernel)
theorem okv_rules {r : Ru} (h : r.Ok) (b : r.Bd) : OkV r.dat := by
  have i (z : Int) (h0 : 0 ≤ z) (h1 : z ≤ 10 ^ 31) : Fits 110 0 (.int z) := by
    have h31 : (10 : Int) ^ 31 < 2 ^ 400 := by decide
    have a := fits_int h0 (by omega)
    refine ⟨a.lv, ?_, a.able, a.dep⟩
    rw [PyData.weight.eq_5]
    have h2 : z.natAbs < 2 ^ 104 := by
      have : (10 : Nat) ^ 31 < 2 ^ 104 := by decide
      omega
    have h3 := Flt.log2_lt_of (by decide) h2
    split <;> omega
  have e1 := fits_word (x := r.rem) (by rcases h.rem with e | e | e <;> simp [e])
  have e2 := fits_word (x := r.bo) (by rcases h.bo with e | e | e | e <;> simp [e])
  have o1 := h.s
  have o2 := h.l
  have o3 := h.p
  have f : ∀ x ∈ itemsR r, Fits 110 0 x := by
    intro x hx
    simp only [itemsR, List.mem_cons, List.not_mem_nil, or_false] at hx
    rcases hx with e | e | e | e | e | e | e <;> rw [e]
    · exact i _ (by omega) b.s
    · exact i _ (by omega) b.l
    · exact i _ (by omega) b.p
    · exact i _ h.d b.d
    · exact fits_up e1 (by decide) (by decide)
    · exact fits_up (fits_bool _) (by decide) (by decide)
    · exact fits_up e2 (by decide) (by decide)
  refine ⟨fits_up (fits_tup (fitsA_of f)) (show (110 + 1) * 7 ≤ 2000 by decide) (by decide), .inl ?_⟩
  simp only [PyData.hasDict]
  exact noDA fun x hx => (leaf_items h b x hx).nd
theorem odds_ok {r : Ru} (h : r.Ok) (b : r.Bd) : ∀ d ∈ odds1 ++ (odds2 ++ [r.dat]), OkV d := fun d hd => by
  rcases List.mem_append.mp hd with hd | hd
  · exact odds1_ok d hd
  · rcases List.mem_append.mp hd with hd | hd
    · exact odds2_ok d hd
    · rw [List.mem_singleton.mp hd]; exact okv_rules h b
end K01

set_option Elab.async false
set_option linter.all false
set_option maxRecDepth 100000
set_option maxHeartbeats 4000000
namespace K01
open PySem L2 Evl PySem.Spec PyProof.Rows PW
local macro_rules | `(tactic| walk_at "wp0") => `(tactic| first
  | (with_reducible refine wb_seq ?_) | (with_reducible refine wb_asg ?_) | (with_reducible refine wg_name ?_) | (with_reducible refine wb_ret ?_) | (with_reducible refine vb_if ?_) | (with_reducible refine wb_next ?_) | (with_reducible refine wb_drop ?_) | (with_reducible refine wb_retN ?_)
  | ((with_reducible show WG _ (gTup _ _ _) _ _ _ _); refine wg_tup rfl ?_) | (with_reducible refine wgs_cons ?_) | ((with_reducible show WGs _ (gCons _ _) _ _ _ _); refine wgs_cons ?_) | (with_reducible refine wgs_nil ?_) | ((with_reducible show WGs _ gNil _ _ _ _); refine wgs_nil ?_)
  | ((with_reducible show WE _ (tVar _) _ _ _); refine we_var rfl ?_)
  | (with_reducible refine we_int ?_) | (with_reducible refine we_str ?_) | (with_reducible refine we_bl ?_) | (with_reducible refine we_non ?_)
  | (with_reducible refine we_isi kit_int ?_) | (with_reducible refine we_isi kit_bool ?_) | (with_reducible refine we_isi kit_str ?_) | (with_reducible refine we_isi kit_tup ?_) | (with_reducible refine we_isi kit_lst ?_)
  | ((with_reducible show WE _ (tOp (rIx _) (tVar _) (tC _)) _ _ _); refine we_ixO rfl rfl rfl ?_)
  | ((with_reducible show WE _ (tOp (rCatS _) _ _) _ _ _); refine we_wl (wl_op ?_)) | ((with_reducible refine ol_cat ?s1 ?_); (case s1 => exact len_ok rfl)) | ((with_reducible refine od_catA ?s1 ?_); (case s1 => exact len_ok rfl))
  | (with_reducible refine we_op ?_) | (with_reducible refine we_tup ?_) | (with_reducible refine we_lst ?_) | (with_reducible refine we_pur ?_) | (with_reducible refine we_cb ?_) | (with_reducible refine we_slA ?_)
  | (with_reducible refine we_wl (wl_slL ?_)) | (with_reducible refine wo_none ?_) | (with_reducible refine wo_some ?_)
  | (with_reducible refine wd_cons ?_) | (with_reducible refine wd_nil ?_)
  | (with_reducible refine ve_and ?_) | (with_reducible refine ve_or ?_) | (with_reducible refine ve_not ?_) | (with_reducible refine ve_if ?_)
  | (with_reducible refine vt_and ?_) | (with_reducible refine vt_or ?_) | (with_reducible refine wt_not ?_) | (with_reducible refine wt_testB ?_) | (with_reducible refine wt_truB ?_)
  | (with_reducible refine od_int0 ?_) | ((with_reducible refine od_int ?s1 ?_); (case s1 => first | assumption | decide | exact ⟨by decide, by decide⟩)) | ((with_reducible show OD _ (rIx _) (.list _) (.int _) _); refine od_ix_l rfl ?_) | ((with_reducible show OD _ (rIx _) (.tuple _) (.int _) _); refine od_ix_t rfl ?_) | ((with_reducible show WG _ (gSub (tVar _) _ _) _ _ _ _); refine wg_sub rfl ?_) | (with_reducible refine od_bl0 ?_)
  | ((with_reducible show WE _ (tC _) _ _ _); refine we_con (d := ?wd) ?wc0 ?_; (case wc0 => assumption))
  | (with_reducible refine OD.or1 (od_eqS ?_)) | (with_reducible refine OD.or1 (od_neS ?_)) | (with_reducible refine od_isN ?_) | (with_reducible refine od_notN ?_)
  | ((with_reducible refine OD.or2 (od_eqD ?s1 ?s2 ?_)); (case s1 => first | assumption | exact rfl | decide +kernel); (case s2 => first | assumption | exact rfl | decide +kernel)) | ((with_reducible refine OD.or2 (od_neD ?s1 ?s2 ?_)); (case s1 => first | assumption | exact rfl | decide +kernel); (case s2 => first | assumption | exact rfl | decide +kernel))
  | ((with_reducible refine od_inT ?s1 ?s2 ?_); (case s1 => first | assumption | exact rfl | decide +kernel); (case s2 => first | assumption | exact rfl | decide +kernel)) | ((with_reducible refine od_notInT ?s1 ?s2 ?_); (case s1 => first | assumption | exact rfl | decide +kernel); (case s2 => first | assumption | exact rfl | decide +kernel))
  | (with_reducible refine cd_abs ?_) | (with_reducible refine cd_int ?_) | (with_reducible refine cd_max2 ?_) | (with_reducible refine cd_min2 ?_) | (with_reducible refine cd_lenL ?_) | (with_reducible refine cd_lenT ?_)
  | (with_reducible refine And.intro (fun hT => ?_) (fun hT => ?_))
  | ((with_reducible refine Exists.intro ?wc (And.intro ?we ?_)); (case we => exact rfl))
  | ((with_reducible show ∃ (_ : Int) (_ : Nat) (_ : List D), _); refine ⟨_, _, _, rfl, rfl, rfl, ?_⟩)
  | ((with_reducible refine And.intro ?we ?_); (case we => first | exact rfl | exact trivial | exact len_ok rfl | exact ⟨_, rfl⟩ | exact ⟨_, _, rfl⟩ | exact ⟨_, _, rfl, rfl⟩ | exact ⟨_, _, _, rfl⟩ | exact ⟨_, rfl, by assumption⟩ | exact ⟨_, by assumption, rfl⟩ | assumption)))
local macro_rules | `(tactic| walk_at "wp") => `(tactic| repeat' (first | walk_at "wp0" | fail))

theorem nt {x : Bool} (h : (!x) = true) : x = false := by cases x <;> simp_all
theorem nf {x : Bool} (h : (!x) = false) : x = true := by cases x <;> simp_all
theorem isRu_no {a b c e f g i : D} (h : wholeFrom a 1 = false ∨ wholeFrom b 1 = false ∨ wholeFrom c 1 = false ∨ wholeFrom e 0 = false ∨ dStr f = false ∨ dStr i = false) : isRu (.tuple [a, b, c, e, f, g, i]) = false := by
  have h5 : dStr f = false → strIn [.str "none", .str "press", .str "held"] f = false := fun h => by
    cases f <;> first | rfl | (simp [dStr] at h)
  have h6 : dStr i = false → strIn [.str "turn", .str "stay", .str "s", .str "l"] i = false := fun h => by
    cases i <;> first | rfl | (simp [dStr] at h)
  rcases h with h | h | h | h | h | h
  · simp [isRu, rightI, h]
  · simp [isRu, rightI, h]
  · simp [isRu, rightI, h]
  · simp [isRu, rightI, h]
  · simp [isRu, rightI, h5 h]
  · simp [isRu, rightI, h6 h]
theorem str_or (d : D) : (∃ x, d = .str x) ∨ dStr d = false := by
  cases d <;> first | exact .inl ⟨_, rfl⟩ | exact .inr rfl
theorem tnf : ¬ (true = false) := fun z => nomatch z
local macro_rules | `(tactic| walk_at "du0") => `(tactic| first
  | ((with_reducible refine And.intro (fun hT => ?_) (fun hT => ?_)) <;> (first | (exact absurd (show false = true from hT) Bool.false_ne_true) | (exact absurd (show true = false from hT) tnf) | skip))
  | (with_reducible refine comp_if (wc_name (by decide) ?_)) | (with_reducible refine comp_nil ?_)
  | ((with_reducible refine And.intro ?we ?_); (case we => first | exact lt_ok rfl))
  | ((with_reducible show OD _ _ (.list []) (.list []) _); refine OD.or1 (od_neD rfl rfl ?_))
  | ((with_reducible refine OD.or2 (od_neE ?s1 ?_)); (case s1 => simp; done))
  | ((with_reducible refine od_inLf ?s1 ?s2 ?_); (case s1 => first | assumption | exact rfl); (case s2 => exact rfl))
  | walk_at "wp0")
local macro_rules | `(tactic| walk_at "du") => `(tactic| repeat' (first | walk_at "du0" | fail))
section
variable {P : Program} {w : World} {K : Fg} {mg : Str → Option Value} {base : Heap}
theorem ok_is_number (T : Tx K mg) : FnG P w K mg base 2 T.f_law_is_number T.d_law_is_number ["value", "minimum"] (SpF K (pur 2 (fun ds => ∃ d k, ds = [d, .int k]) fun ds => match ds with
    | [d, .int k] => .bool (wholeFrom d k)
    | _ => .none)) := by
  refine fg_pur T.F_law_is_number sc_law_is_number fun cdv A outer s H E hr hg => ⟨_, (pss_one (ps_ret (pe_and (pe_callB call_isi (by rfl) T.n_isinstance (by decide +kernel) (pa_cons (pv 0) (pa_cons (pe_bltn (v := .ty "int") (by rfl) T.n_int (by decide +kernel) rfl) pa_nil))) (pe_and (pe_not (pe_callB call_isi (by rfl) T.n_isinstance (by decide +kernel) (pa_cons (pv 0) (pa_cons (pe_bltn (v := .ty "bool") (by rfl) T.n_bool (by decide +kernel) rfl) pa_nil)))) (pe_one (pe_cmpR op_ge (pv 0) (pv 1) (nomark _))))))), fun ds hl hd => ?_⟩
  try simp only [nox_K, cxo_K]
  obtain ⟨d, k, rfl⟩ := hd
  cases d <;> walk_at "wp"
  all_goals first | (show _ = _; simp_all [isWhole, dInt, dBool, wholeFrom]; done) | (rename_i hT; simp [isWhole, dInt, dBool] at hT; done) | (rename_i hT _; simp [isWhole, dInt, dBool] at hT; done) | skip
theorem ok_due (T : Tx K mg) : FnG P w K mg base 3 T.f_law_due T.d_law_due ["value"] (SpF K (pur 1 (fun _ => True) fun ds => .bool (isRu (ds.getD 0 .none)))) := by
  have G_law_is_number := ok_is_number (P := P) (w := w) (base := base) T
  refine fg_pur T.F_law_due sc_law_due fun cdv A outer s H E hr hg => ⟨_, (pss_cons (ps_if (PW.pt (pw_or (pt_not (pt_truth (pe_callB call_isi (by rfl) T.n_isinstance (by decide +kernel) (pa_cons (pv 0) (pa_cons (pe_bltn (v := .ty "tuple") (by rfl) T.n_tuple (by decide +kernel) rfl) pa_nil))) (by intro _; rfl))) (pw_or (pt_cmpR (op_ne.or (op_neD (u65 hr))) (pe_callB call_lenD (by rfl) T.n_len (by decide +kernel) (pa_cons (pv 0) pa_nil)) pe_int (nomark _)) (pw_or1 (pt_not (pt_truth (pe_callB call_isi (by rfl) T.n_isinstance (by decide +kernel) (pa_cons (pe_ix ix_seq (pv 0) pe_int (fun _ _ => rfl)) (pa_cons (pe_bltn (v := .ty "bool") (by rfl) T.n_bool (by decide +kernel) rfl) pa_nil))) (by intro _; rfl))))))) (pss_one (ps_ret pe_bl)) pss_nil) (pss_cons (ps_if (PW.pt (pw_or (pt_cmpR ((op_neD (u65 hr)).or (op_neE (u65 hr))) (pe_lc (own := [("item", 3)]) rfl sc_law_due.nd (pi_tup (pe_slice sl_tupA (pv 0) po_none (po_some pe_int))) (blkOk_by (own := [("item", 3)]) (N := ["value", "words", "word", "item"]) (sc := defScope s_law_due) (by decide +kernel)) (fun _ _ _ _ _ => (pg_name (i := 3) sc_law_due.nd rfl (Or.inl rfl))) (fun _ _ _ _ _ => (pts_one (pt_not (truK (K := K) rfl (pg_call G_law_is_number (hr.mono (by decide)) hg rfl T.m_law_is_number T.F_law_is_number.kp T.b_law_is_number (pa_cons (pv 3) (pa_cons pe_int pa_nil))) (by intro _; rfl))))) (fun _ _ _ _ _ => (pv 3))) (pe_lst pa_nil) (nomark _)) (pw_or1 (pt_not (pt_truth (pg_call G_law_is_number (hr.mono (by decide)) hg rfl T.m_law_is_number T.F_law_is_number.kp T.b_law_is_number (pa_cons (pe_ix ix_seq (pv 0) pe_int (fun _ _ => rfl)) (pa_cons pe_int pa_nil))) (by intro _; rfl)))))) (pss_one (ps_ret pe_bl)) pss_nil) (pss_cons (ps_set (i := 1) sc_law_due.nd rfl (Or.inl rfl) (pe_lst (pa_cons (pe_ix ix_seq (pv 0) pe_int (fun _ _ => rfl)) (pa_cons (pe_ix ix_seq (pv 0) pe_int (fun _ _ => rfl)) pa_nil)))) (pss_cons (ps_if (pt_cmpR ((op_neD (u65 hr)).or (op_neE (u65 hr))) (pe_lc (own := [("word", 2)]) rfl sc_law_due.nd (pi_list (pv 1)) (blkOk_by (own := [("word", 2)]) (N := ["value", "words", "word", "item"]) (sc := defScope s_law_due) (by decide +kernel)) (fun _ _ _ _ _ => (pg_name (i := 2) sc_law_due.nd rfl (Or.inl rfl))) (fun _ _ _ _ _ => (pts_one (pt_not (truK (K := K) rfl (pe_callB (isiK (K := K) rfl) (by rfl) T.n_isinstance (by decide +kernel) (pa_cons (pv 2) (pa_cons (pe_bltn (v := .ty "str") (by rfl) T.n_str (by decide +kernel) rfl) pa_nil))) (by intro _; rfl))))) (fun _ _ _ _ _ => (pv 2))) (pe_lst pa_nil) (nomark _)) (pss_one (ps_ret pe_bl)) pss_nil) (pss_one (ps_ret (pe_and (pe_cmpR op_in_seq (pe_ix ix_seq (pv 1) pe_int (fun _ _ => rfl)) (pe_lst (pa_cons pe_str (pa_cons pe_str (pa_cons pe_str pa_nil)))) (by rfl)) (pe_one (pe_cmpR op_in_seq (pe_ix ix_seq (pv 1) pe_int (fun _ _ => rfl)) (pe_lst (pa_cons pe_str (pa_cons pe_str (pa_cons pe_str (pa_cons pe_str pa_nil))))) (by rfl)))))))))), fun ds hl hd => ?_⟩
  try simp only [nox_K, cxo_K]
  match ds, hl with
  | [d], _ =>
  by_cases hf : formR d = true
  · obtain ⟨a, b, c, e, f, g, i, rfl⟩ := form7 d hf
    clear hf
    have no : isRu (.tuple [a, b, c, e, f, g, i]) = false → ∀ z : D, z = .bool false → z = .bool (isRu (.tuple [a, b, c, e, f, g, i])) := fun h z hz => by rw [hz, h]
    walk_at "du"
    · rename_i hT
      have e : dBool g = false := by simpa using hT
      exact no (by simp [isRu, rightI, e]) _ rfl
    rename_i h1 h2 hT
    have eg : dBool g = true := by simpa using hT
    clear h1 h2 hT
    refine we_wl (wl_lcT ?_)
    walk_at "du"
    show comp K _ _ _ _ [a, b, c] _ _ _ _
    walk_at "du"
    all_goals first
      | exact no (isRu_no (.inl (nt (by assumption)))) _ rfl
      | exact no (isRu_no (.inr (.inl (nt (by assumption))))) _ rfl
      | exact no (isRu_no (.inr (.inr (.inl (nt (by assumption)))))) _ rfl
      | exact no (isRu_no (.inr (.inr (.inr (.inl (nt (by assumption))))))) _ rfl
      | skip
    rename_i ha hb hc _ he
    have ea := nf ha
    have eb := nf hb
    have ec := nf hc
    have ee := nf he
    clear ha hb hc he
    refine we_wl (wl_lcL ?_)
    rcases str_or f with ⟨x, rfl⟩ | ef
    · rcases str_or i with ⟨y, rfl⟩ | ei
      · walk_at "du"
        · rename_i hT
          have e5 : strIn [.str "none", .str "press", .str "held"] (.str x) = true := hT
          show PyData.bool (strIn [.str "turn", .str "stay", .str "s", .str "l"] (.str y)) = .bool (isRu (.tuple [a, b, c, e, .str x, g, .str y]))
          simp [isRu, rightI, ea, eb, ec, ee, eg, e5]
        · rename_i hT
          have e5 : strIn [.str "none", .str "press", .str "held"] (.str x) = false := hT
          exact no (by simp [isRu, rightI, e5]) _ rfl
      · walk_at "du"
        all_goals first
          | exact no (isRu_no (.inr (.inr (.inr (.inr (.inr ei)))))) _ rfl
          | (exfalso; exact absurd (nf (show (!dStr i) = false by assumption)) (by rw [ei]; decide))
    · walk_at "du"
      all_goals first
        | exact no (isRu_no (.inr (.inr (.inr (.inr (.inl ef)))))) _ rfl
        | (exfalso; exact absurd (nf (show (!dStr f) = false by assumption)) (by rw [ef]; decide))
  · have hf := Bool.eq_false_iff.mpr hf
    cases d
    case tuple xs =>
      walk_at "du"
      all_goals first
        | exact congrArg PyData.bool (form_no _ hf).symm
        | (exfalso; rename_i hT; simp_all [formR]; done)
    all_goals walk_at "du"
    all_goals exact congrArg PyData.bool (form_no _ hf).symm
end
end K01

set_option Elab.async false
set_option linter.all false
set_option maxRecDepth 100000
set_option maxHeartbeats 2000000
set_option exponentiation.threshold 500
namespace K01
open PySem L2 Evl PySem.Spec PyProof.Rows PW
local macro_rules | `(tactic| walk_at "wp0") => `(tactic| first
  | (with_reducible refine wb_seq ?_) | (with_reducible refine wb_asg ?_) | (with_reducible refine wg_name ?_) | (with_reducible refine wb_ret ?_) | (with_reducible refine vb_if ?_) | (with_reducible refine wb_next ?_) | (with_reducible refine wb_drop ?_) | (with_reducible refine wb_retN ?_)
  | ((with_reducible show WG _ (gTup _ _ _) _ _ _ _); refine wg_tup rfl ?_) | (with_reducible refine wgs_cons ?_) | ((with_reducible show WGs _ (gCons _ _) _ _ _ _); refine wgs_cons ?_) | (with_reducible refine wgs_nil ?_) | ((with_reducible show WGs _ gNil _ _ _ _); refine wgs_nil ?_)
  | ((with_reducible show WE _ (tVar _) _ _ _); refine we_var rfl ?_)
  | (with_reducible refine we_int ?_) | (with_reducible refine we_str ?_) | (with_reducible refine we_bl ?_) | (with_reducible refine we_non ?_)
  | (with_reducible refine we_isi kit_int ?_) | (with_reducible refine we_isi kit_bool ?_) | (with_reducible refine we_isi kit_str ?_) | (with_reducible refine we_isi kit_tup ?_) | (with_reducible refine we_isi kit_lst ?_)
  | ((with_reducible show WE _ (tOp (rIx _) (tVar _) (tC _)) _ _ _); refine we_ixO rfl rfl rfl ?_)
  | ((with_reducible show WE _ (tOp (rCatS _) _ _) _ _ _); refine we_wl (wl_op ?_)) | ((with_reducible refine ol_cat ?s1 ?_); (case s1 => exact len_ok rfl)) | ((with_reducible refine od_catA ?s1 ?_); (case s1 => exact len_ok rfl))
  | (with_reducible refine we_op ?_) | (with_reducible refine we_tup ?_) | (with_reducible refine we_lst ?_) | (with_reducible refine we_pur ?_) | (with_reducible refine we_cb ?_) | (with_reducible refine we_slA ?_)
  | (with_reducible refine we_wl (wl_slL ?_)) | (with_reducible refine wo_none ?_) | (with_reducible refine wo_some ?_)
  | (with_reducible refine wd_cons ?_) | (with_reducible refine wd_nil ?_)
  | (with_reducible refine ve_and ?_) | (with_reducible refine ve_or ?_) | (with_reducible refine ve_not ?_) | (with_reducible refine ve_if ?_)
  | (with_reducible refine vt_and ?_) | (with_reducible refine vt_or ?_) | (with_reducible refine wt_not ?_) | (with_reducible refine wt_testB ?_) | (with_reducible refine wt_truB ?_)
  | (with_reducible refine od_int0 ?_) | ((with_reducible refine od_int ?s1 ?_); (case s1 => first | assumption | decide | exact ⟨by decide, by decide⟩)) | ((with_reducible show OD _ (rIx _) (.list _) (.int _) _); refine od_ix_l rfl ?_) | ((with_reducible show OD _ (rIx _) (.tuple _) (.int _) _); refine od_ix_t rfl ?_) | ((with_reducible show WG _ (gSub (tVar _) _ _) _ _ _ _); refine wg_sub rfl ?_) | (with_reducible refine od_bl0 ?_)
  | ((with_reducible show WE _ (tC _) _ _ _); refine we_con (d := ?wd) ?wc0 ?_; (case wc0 => assumption))
  | (with_reducible refine OD.or1 (od_eqS ?_)) | (with_reducible refine OD.or1 (od_neS ?_)) | (with_reducible refine od_isN ?_) | (with_reducible refine od_notN ?_)
  | ((with_reducible refine OD.or2 (od_eqD ?s1 ?s2 ?_)); (case s1 => first | assumption | exact rfl | decide +kernel); (case s2 => first | assumption | exact rfl | decide +kernel)) | ((with_reducible refine OD.or2 (od_neD ?s1 ?s2 ?_)); (case s1 => first | assumption | exact rfl | decide +kernel); (case s2 => first | assumption | exact rfl | decide +kernel))
  | ((with_reducible refine od_inT ?s1 ?s2 ?_); (case s1 => first | assumption | exact rfl | decide +kernel); (case s2 => first | assumption | exact rfl | decide +kernel)) | ((with_reducible refine od_notInT ?s1 ?s2 ?_); (case s1 => first | assumption | exact rfl | decide +kernel); (case s2 => first | assumption | exact rfl | decide +kernel))
  | (with_reducible refine cd_abs ?_) | (with_reducible refine cd_int ?_) | (with_reducible refine cd_max2 ?_) | (with_reducible refine cd_min2 ?_) | (with_reducible refine cd_lenL ?_) | (with_reducible refine cd_lenT ?_)
  | (with_reducible refine And.intro (fun hT => ?_) (fun hT => ?_))
  | ((with_reducible refine Exists.intro ?wc (And.intro ?we ?_)); (case we => exact rfl))
  | ((with_reducible show ∃ (_ : Int) (_ : Nat) (_ : List D), _); refine ⟨_, _, _, rfl, rfl, rfl, ?_⟩)
  | ((with_reducible refine And.intro ?we ?_); (case we => first | exact rfl | exact trivial | exact len_ok rfl | exact ⟨_, rfl⟩ | exact ⟨_, _, rfl⟩ | exact ⟨_, _, rfl, rfl⟩ | exact ⟨_, _, _, rfl⟩ | exact ⟨_, rfl, by assumption⟩ | exact ⟨_, by assumption, rfl⟩ | assumption)))
local macro_rules | `(tactic| walk_at "wp") => `(tactic| repeat' (first | walk_at "wp0" | fail))

theorem wb_two {K : Fg} {n : Nat} {δ : Dl} {M : Ms} {P : Po} {te : TE} (h : WL K te δ M fun ds M1 => P.nx (δ.set 5 (some (.own M1.length))) (M1 ++ [.lst ds])) : WB K n (tAsg te (gName 5)) δ M P := wb_asgO h
theorem ixN_at {n : Nat} {z : Int} (h0 : 0 ≤ z) (h1 : z < n) : ixN n z = some z.toNat := by
  unfold ixN
  rw [if_pos h0, if_pos h1]
local macro_rules | `(tactic| walk_at "sp0") => `(tactic| first
  | (with_reducible refine we_spin rfl ?_)
  | (with_reducible refine wb_two (wl_cb ?_))
  | ((with_reducible show WB _ _ (tRet (tOp _ (tVar 3) _)) _ _ _); refine wb_frz (i := 5) (k := 1) rfl rfl (Nat.le_refl _) ?_)
  | ((with_reducible show WE _ (tDisp _) _ _ _); refine we_dicD [("s", .int 2)] (by decide) rfl rfl ?_)
  | (with_reducible refine we_negC ?_) | (with_reducible refine we_dnewK ?_) | (with_reducible refine we_revT ?_)
  | ((with_reducible refine And.intro ?we ?_); (case we => first | exact lt_ok rfl))
  | walk_at "wp0"
  | ((with_reducible show CD _ _ [.list _] _); refine cd_tupL ?_))
local macro_rules | `(tactic| walk_at "sp") => `(tactic| repeat' (first | walk_at "sp0" | fail))
section
variable {P : Program} {w : World} {K : Fg} {mg : Str → Option Value} {base : Heap}
/-- _law_bent: values that can be shown -/
def bentS : FS := fun cs M R => ∃ (a b c : Int) (r : Ru), cs = [.own 0, .dat r.dat] ∧ M = [.lst [.int a, .int b, .int c]] ∧ 0 ≤ a ∧ 0 ≤ b ∧ b < 2 ^ 200 ∧ 0 ≤ c ∧ c < 2 ^ 59 ∧ r.Ok ∧ r.Bd ∧
  ∀ (ds : List D) (a' c' : Int), (∀ d ∈ ds, Shw d) → 0 ≤ a' → c ≤ c' → c' ≤ c + 10 → R (.list ds) [.lst [.int a', .int b, .int c']]
theorem ok_bent (T : Tx K mg) : FnG P w K mg base 2 T.f_law_bent T.d_law_bent ["reel", "rules"] (SpF K bentS) := by
  have G_law_spin := ok_spin (P := P) (w := w) (base := base) T
  refine fgok T.F_law_bent sc_law_bent (fun cs M R h => ?_) fun cdv A outer s0 H E hr hg => ⟨_, (pss_cons (ps_asg (pe_tup (pa_cons (pg_call G_law_spin (hr.mono (by decide)) hg rfl T.m_law_spin T.F_law_spin.kp T.b_law_spin (pa_cons (pv 0) (pa_cons pe_int pa_nil))) (pa_cons (pe_callTy call_list_of (by rfl) T.n_list (by decide +kernel) (pa_cons (pv 1) pa_nil)) pa_nil))) (pg_tup rfl (pgs_cons (pg_name (i := 6) sc_law_bent.nd rfl (Or.inr rfl)) (pgs_cons (pg_name (i := 7) sc_law_bent.nd rfl (Or.inr rfl)) pgs_nil)))) (pss_cons (ps_set (i := 2) sc_law_bent.nd rfl (Or.inl rfl) (pe_lst (pa_cons pe_int (pa_cons pe_int (pa_cons (pe_un un_neg pe_int) (pa_cons pe_int (pa_cons (pe_op op_powW pe_int pe_int) (pa_cons pe_bl (pa_cons pe_bl (pa_cons pe_non (pa_cons pe_str (pa_cons pe_str (pa_cons pe_str (pa_cons pe_str (pa_cons pe_str (pa_cons pe_str (pa_cons pe_str (pa_cons pe_str (pa_cons pe_str pa_nil))))))))))))))))))) (pss_cons (ps_set (i := 2) sc_law_bent.nd rfl (Or.inl rfl) (pe_op op_catS (pv 2) (pe_lst (pa_cons pe_str (pa_cons pe_str (pa_cons (pe_tup pa_nil) (pa_cons (pe_lst pa_nil) (pa_cons pe_dnewK (pa_cons (pe_tup (pa_cons pe_int pa_nil)) (pa_cons (pe_lst (pa_cons pe_str pa_nil)) (pa_cons pe_str (pa_cons pe_str (pa_cons pe_str (pa_cons (pv 1) pa_nil)))))))))))))) (pss_cons (ps_setLc (i := 3) (own := [("odd", 8)]) rfl sc_law_bent.nd rfl rfl (sw_true rfl rfl rfl (by decide +kernel)) (pi_list (pv 2)) (blkOk_by (own := [("odd", 8)]) (N := ["reel", "rules", "odds", "found", "other", "two", "spot", "items", "odd"]) (sc := defScope s_law_bent) (by decide +kernel)) (fun _ _ _ _ _ => (pg_name (i := 8) sc_law_bent.nd rfl (Or.inl rfl))) (fun _ _ _ _ _ => pts_nil) (fun _ _ _ _ _ => (pe_callTy (tupK (K := K) rfl) (by rfl) T.n_tuple (by decide +kernel) (pa_cons (pe_op (catK (K := K) rfl) (pe_op (catK (K := K) rfl) (pe_slice (slK (K := K) rfl) (pv 7) po_none (po_some (pv 6))) (pe_lst (pa_cons (pv 8) pa_nil))) (pe_slice (slK (K := K) rfl) (pv 7) (po_some (pe_op op_add (pv 6) pe_int)) po_none)) pa_nil)))) (pss_cons (ps_set (i := 3) sc_law_bent.nd rfl (Or.inl rfl) (pe_op op_catS (pv 3) (pe_lst (pa_cons (pe_callTy call_tuple_of (by rfl) T.n_tuple (by decide +kernel) (pa_cons (pe_op op_catS (pe_slice sl_list (pv 7) po_none (po_some (pv 6))) (pe_slice sl_list (pv 7) (po_some (pe_op op_add (pv 6) pe_int)) po_none)) pa_nil)) (pa_cons (pe_op op_catA (pv 1) (pe_tup (pa_cons pe_int pa_nil))) (pa_cons (pv 7) (pa_cons (pe_revT (pv 1)) (pa_cons (pe_tup (pa_cons (pv 1) pa_nil)) (pa_cons (pe_tup pa_nil) (pa_cons pe_non (pa_cons pe_int pa_nil))))))))))) (pss_cons (ps_set (i := 4) sc_law_bent.nd rfl (Or.inl rfl) (pg_call G_law_spin (hr.mono (by decide)) hg rfl T.m_law_spin T.F_law_spin.kp T.b_law_spin (pa_cons (pv 0) (pa_cons pe_int pa_nil)))) (pss_cons (ps_set (i := 5) sc_law_bent.nd rfl (Or.inl rfl) (pe_callTy call_list_of (by rfl) T.n_list (by decide +kernel) (pa_cons (pv 7) pa_nil))) (pss_cons (ps_asg (pe_tup (pa_cons (pe_ix ix_seq (pv 7) (pv 4) (fun _ _ => rfl)) (pa_cons (pe_ix ix_seq (pv 7) (pv 6) (fun _ _ => rfl)) pa_nil))) (pg_tup rfl (pgs_cons (pg_sub (pv 5) (pv 6) set_list) (pgs_cons (pg_sub (pv 5) (pv 4) set_list) pgs_nil)))) (pss_one (ps_ret (pe_op op_catS (pv 3) (pe_lst (pa_cons (pe_callTy call_tuple_of (by rfl) T.n_tuple (by decide +kernel) (pa_cons (pv 5) pa_nil)) (pa_cons pe_str (pa_cons (pe_disp (pps_cons pe_str pe_int pps_nil) (by rfl) (by rfl) (fun z => by cases z) (by decide)) (pa_cons pe_bl (pa_cons (pe_un un_neg pe_int) pa_nil))))))))))))))))), fun cs M R h => ?_⟩
  · obtain ⟨a, b, c, r, rfl, _⟩ := h
    rfl
  try simp only [nox_K, cxo_K]
  obtain ⟨a, b, c, r, rfl, rfl, ha, hb, hb2, hc, hc2, hok, hbd, hR⟩ := h
  have hit := leaf_items hok hbd
  refine wb_seq ?_
  walk_at "sp"
  refine ⟨a, b, c, 7, rfl, rfl, ha, hb, hb2, hc, by omega, by decide, by decide, fun spot a1 c1 hs0 hs1 ha1 hc1 hc12 => ?_⟩
  refine wd_cons (we_wl (wl_cb ?_))
  walk_at "sp"
  refine cl_lstT ?_
  walk_at "sp"
  refine we_wl (wl_lcL ?_)
  walk_at "sp"
  have big : 100 ≤ sizeLine := len_ok rfl
  have l1 : ∀ lo hi, (cutD (itemsR r) lo hi).length ≤ 7 := fun lo hi => cutD_len (itemsR r) lo hi
  refine comp_each (P := Shw) (odds1 ++ (odds2 ++ [r.dat])) [] (fun d hd => ?_) (len_ok rfl) (fun y hy => nomatch hy) fun es hel hes => ?_
  · have ho := odds_ok hok hbd d hd
    refine wc_name (by decide) ?_
    walk_at "sp"
    refine ol_cat (show (cutD (itemsR r) none (some spot)).length + 1 ≤ sizeLine by have := l1 none (some spot); omega) ?_
    walk_at "sp"
    refine ol_cat (show (cutD (itemsR r) none (some spot) ++ [d]).length + (cutD (itemsR r) (some (spot + 1)) none).length ≤ sizeLine by rw [List.length_append]; have := l1 none (some spot); have := l1 (some (spot + 1)) none; simp only [List.length_cons, List.length_nil]; omega) ?_
    walk_at "sp"
    exact shw_odd (fun x hx => hit x (cutD_mem hx)) (fun x hx => hit x (cutD_mem hx)) ho (l1 _ _) (l1 _ _)
  have hel2 : es.length = 28 := by rw [hel]; rfl
  walk_at "sp"
  refine ol_cat (show (cutD (itemsR r) none (some spot)).length + (cutD (itemsR r) (some (spot + 1)) none).length ≤ sizeLine by have := l1 none (some spot); have := l1 (some (spot + 1)) none; omega) ?_
  walk_at "sp"
  refine ⟨_, _, _, _, _, _, _, rfl, ?_⟩
  walk_at "sp"
  refine ol_cat (show es.length + 8 ≤ sizeLine by omega) ?_
  walk_at "sp"
  refine ⟨a1, b, c1, 7, rfl, rfl, ha1, hb, hb2, by omega, by omega, by decide, by decide, fun other a2 c2 ho0 ho1 ha2 hc2 hc22 => ?_⟩
  walk_at "sp"
  refine cl_lstL ?_
  walk_at "sp"
  refine od_ixA (ds := itemsR r) ho0 ho1 (fun d1 hd1 => ?_)
  walk_at "sp"
  refine od_ixA (ds := itemsR r) hs0 hs1 (fun d2 hd2 => ?_)
  walk_at "sp"
  refine ⟨spot, spot.toNat, itemsR r, rfl, rfl, ixN_at hs0 hs1, ?_⟩
  walk_at "sp"
  refine ⟨other, other.toNat, (itemsR r).set spot.toNat d1, rfl, rfl, ixN_at ho0 (by rw [List.length_set]; exact ho1), ?_⟩
  walk_at "sp"
  refine ol_cat (by rw [List.length_append, hel2]; exact len_ok rfl) ?_
  have hrd : (Ru.dat r).hasDict = false := by
    simp only [PyData.hasDict]
    exact noDA fun x hx => (hit x hx).nd
  have hset : ∀ x ∈ ((itemsR r).set spot.toNat d1).set other.toNat d2, Leaf x := fun x hx => by
    rcases List.mem_or_eq_of_mem_set hx with hx | e
    · rcases List.mem_or_eq_of_mem_set hx with hx | e
      · exact hit x hx
      · rw [e]; exact hit _ hd1
    · rw [e]; exact hit _ hd2
  refine hR _ a2 c2 (fun d hd => ?_) ha2 (by omega) (by omega)
  rcases List.mem_append.mp hd with hd | hd
  · rcases List.mem_append.mp hd with hd | hd
    · exact hes d hd
    · simp only [List.mem_cons, List.not_mem_nil, or_false] at hd
      rcases hd with e | e | e | e | e | e | e | e <;> rw [e]
      · refine shw_leafs (fun x hx => ?_) ?_
        · rcases List.mem_append.mp hx with hx | hx
          · exact hit x (cutD_mem hx)
          · exact hit x (cutD_mem hx)
        · show (cutD (itemsR r) none (some spot) ++ cutD (itemsR r) (some (spot + 1)) none).length ≤ 19
          rw [List.length_append]
          have := l1 none (some spot)
          have := l1 (some (spot + 1)) none
          omega
      · refine shw_leafs (fun x hx => ?_) (show 8 ≤ 19 by decide)
        rcases List.mem_append.mp hx with hx | hx
        · exact hit x hx
        · rw [List.mem_singleton.mp hx]
          exact leaf_int (by decide) (by decide)
      · exact shw_leafsL hit (show 7 ≤ 19 by decide)
      · exact shw_leafs (fun x hx => hit x (List.mem_reverse.mp (show x ∈ (itemsR r).reverse from hx))) (show 7 ≤ 19 by decide)
      · refine shw_tup (fun x hx => ?_) (show 1 ≤ 19 by decide) (.inl fun x hx => ?_)
        · rw [List.mem_singleton.mp hx]; exact (okv_rules hok hbd).ft
        · rw [List.mem_singleton.mp hx]; exact hrd
      · exact (okB_ok (by decide +kernel)).shw
      · exact (okB_ok (by decide +kernel)).shw
      · exact (okB_ok (by decide +kernel)).shw
  · simp only [List.mem_cons, List.not_mem_nil, or_false] at hd
    rcases hd with e | e | e | e | e <;> rw [e]
    · exact shw_leafs hset (by rw [List.length_set, List.length_set]; exact (show 7 ≤ 19 by decide))
    · exact (okB_ok (by decide +kernel)).shw
    · exact (okB_ok (by decide +kernel)).shw
    · exact (okB_ok (by decide +kernel)).shw
    · exact (okB_ok (by decide +kernel)).shw
end
end K01

set_option Elab.async false
set_option linter.all false
set_option maxRecDepth 100000
set_option maxHeartbeats 2000000
set_option exponentiation.threshold 500
namespace K01
open PySem L2 Evl PySem.Spec PyProof.Rows PW
local macro_rules | `(tactic| walk_at "wp0") => `(tactic| first
  | (with_reducible refine wb_seq ?_) | (with_reducible refine wb_asg ?_) | (with_reducible refine wg_name ?_) | (with_reducible refine wb_ret ?_) | (with_reducible refine vb_if ?_) | (with_reducible refine wb_next ?_) | (with_reducible refine wb_drop ?_) | (with_reducible refine wb_retN ?_)
  | ((with_reducible show WG _ (gTup _ _ _) _ _ _ _); refine wg_tup rfl ?_) | (with_reducible refine wgs_cons ?_) | ((with_reducible show WGs _ (gCons _ _) _ _ _ _); refine wgs_cons ?_) | (with_reducible refine wgs_nil ?_) | ((with_reducible show WGs _ gNil _ _ _ _); refine wgs_nil ?_)
  | ((with_reducible show WE _ (tVar _) _ _ _); refine we_var rfl ?_)
  | (with_reducible refine we_int ?_) | (with_reducible refine we_str ?_) | (with_reducible refine we_bl ?_) | (with_reducible refine we_non ?_)
  | (with_reducible refine we_isi kit_int ?_) | (with_reducible refine we_isi kit_bool ?_) | (with_reducible refine we_isi kit_str ?_) | (with_reducible refine we_isi kit_tup ?_) | (with_reducible refine we_isi kit_lst ?_)
  | ((with_reducible show WE _ (tOp (rIx _) (tVar _) (tC _)) _ _ _); refine we_ixO rfl rfl rfl ?_)
  | ((with_reducible show WE _ (tOp (rCatS _) _ _) _ _ _); refine we_wl (wl_op ?_)) | ((with_reducible refine ol_cat ?s1 ?_); (case s1 => exact len_ok rfl)) | ((with_reducible refine od_catA ?s1 ?_); (case s1 => exact len_ok rfl))
  | (with_reducible refine we_op ?_) | (with_reducible refine we_tup ?_) | (with_reducible refine we_lst ?_) | (with_reducible refine we_pur ?_) | (with_reducible refine we_cb ?_) | (with_reducible refine we_slA ?_)
  | (with_reducible refine we_wl (wl_slL ?_)) | (with_reducible refine wo_none ?_) | (with_reducible refine wo_some ?_)
  | (with_reducible refine wd_cons ?_) | (with_reducible refine wd_nil ?_)
  | (with_reducible refine ve_and ?_) | (with_reducible refine ve_or ?_) | (with_reducible refine ve_not ?_) | (with_reducible refine ve_if ?_)
  | (with_reducible refine vt_and ?_) | (with_reducible refine vt_or ?_) | (with_reducible refine wt_not ?_) | (with_reducible refine wt_testB ?_) | (with_reducible refine wt_truB ?_)
  | (with_reducible refine od_int0 ?_) | ((with_reducible refine od_int ?s1 ?_); (case s1 => first | assumption | decide | exact ⟨by decide, by decide⟩)) | ((with_reducible show OD _ (rIx _) (.list _) (.int _) _); refine od_ix_l rfl ?_) | ((with_reducible show OD _ (rIx _) (.tuple _) (.int _) _); refine od_ix_t rfl ?_) | ((with_reducible show WG _ (gSub (tVar _) _ _) _ _ _ _); refine wg_sub rfl ?_) | (with_reducible refine od_bl0 ?_)
  | ((with_reducible show WE _ (tC _) _ _ _); refine we_con (d := ?wd) ?wc0 ?_; (case wc0 => assumption))
  | (with_reducible refine OD.or1 (od_eqS ?_)) | (with_reducible refine OD.or1 (od_neS ?_)) | (with_reducible refine od_isN ?_) | (with_reducible refine od_notN ?_)
  | ((with_reducible refine OD.or2 (od_eqD ?s1 ?s2 ?_)); (case s1 => first | assumption | exact rfl | decide +kernel); (case s2 => first | assumption | exact rfl | decide +kernel)) | ((with_reducible refine OD.or2 (od_neD ?s1 ?s2 ?_)); (case s1 => first | assumption | exact rfl | decide +kernel); (case s2 => first | assumption | exact rfl | decide +kernel))
  | ((with_reducible refine od_inT ?s1 ?s2 ?_); (case s1 => first | assumption | exact rfl | decide +kernel); (case s2 => first | assumption | exact rfl | decide +kernel)) | ((with_reducible refine od_notInT ?s1 ?s2 ?_); (case s1 => first | assumption | exact rfl | decide +kernel); (case s2 => first | assumption | exact rfl | decide +kernel))
  | (with_reducible refine cd_abs ?_) | (with_reducible refine cd_int ?_) | (with_reducible refine cd_max2 ?_) | (with_reducible refine cd_min2 ?_) | (with_reducible refine cd_lenL ?_) | (with_reducible refine cd_lenT ?_)
  | (with_reducible refine And.intro (fun hT => ?_) (fun hT => ?_))
  | ((with_reducible refine Exists.intro ?wc (And.intro ?we ?_)); (case we => exact rfl))
  | ((with_reducible show ∃ (_ : Int) (_ : Nat) (_ : List D), _); refine ⟨_, _, _, rfl, rfl, rfl, ?_⟩)
  | ((with_reducible refine And.intro ?we ?_); (case we => first | exact rfl | exact trivial | exact len_ok rfl | exact ⟨_, rfl⟩ | exact ⟨_, _, rfl⟩ | exact ⟨_, _, rfl, rfl⟩ | exact ⟨_, _, _, rfl⟩ | exact ⟨_, rfl, by assumption⟩ | exact ⟨_, by assumption, rfl⟩ | assumption)))
local macro_rules | `(tactic| walk_at "wp") => `(tactic| repeat' (first | walk_at "wp0" | fail))

theorem getL {L : Ms} {m : MO} : (L ++ [m])[L.length]? = some m := by simp
theorem setL {L : Ms} {m m' : MO} : (L ++ [m]).set L.length m' = L ++ [m'] := by simp
theorem nes {x : Str} (h : (!(x == x)) = true) : False := by simp at h
theorem isRu_ok {r : Ru} (h : r.Ok) : isRu r.dat = true := h.right
theorem shw_bool (b : Bool) : Shw (.bool b) := by cases b <;> exact (okB_ok (by decide +kernel)).shw
section
variable {K : Fg} {δ : Dl} {M L : Ms} {R : D → Ms → Prop} {ts : TA} {E : XK}
theorem we_spinL {i : Nat} (ho : δ[i]? = some (some (.own L.length))) (h : WD K ts δ M fun ds M1 => ∃ a b c many : Int, ds = [.int many] ∧ M1 = L ++ [.lst [.int a, .int b, .int c]] ∧ 0 ≤ a ∧ 0 ≤ b ∧ b < 2 ^ 200 ∧ 0 ≤ c ∧ c < 2 ^ 60 ∧ 0 < many ∧ many < 2 ^ 400 ∧
    ∀ z a' c' : Int, 0 ≤ z → z < many → 0 ≤ a' → c ≤ c' → c' ≤ c + 1 → R (.int z) (L ++ [.lst [.int a', .int b, .int c']])) : WE K (tCall (SpF K spinS) [] E (tCons (tVar i) ts)) δ M R :=
  we_callO ho (wd_mono h fun ds M1 q => by
    obtain ⟨a, b, c, many, rfl, rfl, h1, h2, h3, h4, h5, h6, h7, hR⟩ := q
    refine ⟨_, getL, a, b, c, many, rfl, rfl, h1, h2, h3, h4, h5, h6, h7, fun z a' c' q1 q2 q3 q4 q5 m' e => ?_⟩
    cases e
    rw [setL]
    exact hR z a' c' q1 q2 q3 q4 q5)
theorem we_rulesL {i : Nat} (ho : δ[i]? = some (some (.own L.length))) (h : WD K ts δ M fun ds M1 => ∃ a b c most : Int, ds = [.int most] ∧ M1 = L ++ [.lst [.int a, .int b, .int c]] ∧ 0 ≤ a ∧ 0 ≤ b ∧ b < 2 ^ 200 ∧ 0 ≤ c ∧ c < 2 ^ 59 ∧ 0 < most ∧ most ≤ 10 ^ 29 ∧
    ∀ (r : Ru) (a' c' : Int), r.Ok → r.Bd → 0 ≤ a' → c ≤ c' → c' ≤ c + 10 → R r.dat (L ++ [.lst [.int a', .int b, .int c']])) : WE K (tCall (SpF K rulesS) [] E (tCons (tVar i) ts)) δ M R :=
  we_callO ho (wd_mono h fun ds M1 q => by
    obtain ⟨a, b, c, most, rfl, rfl, h1, h2, h3, h4, h5, h6, h7, hR⟩ := q
    refine ⟨_, getL, a, b, c, most, rfl, rfl, h1, h2, h3, h4, h5, h6, h7, fun r a' c' q1 q2 q3 q4 q5 q6 q7 q8 m' e => ?_⟩
    cases e
    rw [setL]
    exact hR r a' c' q1 ⟨by omega, by omega, by omega, by omega⟩ q6 q7 q8)
theorem we_bentL {i : Nat} (ho : δ[i]? = some (some (.own L.length))) (h : WD K ts δ M fun ds M1 => ∃ (a b c : Int) (r : Ru), ds = [r.dat] ∧ M1 = L ++ [.lst [.int a, .int b, .int c]] ∧ 0 ≤ a ∧ 0 ≤ b ∧ b < 2 ^ 200 ∧ 0 ≤ c ∧ c < 2 ^ 59 ∧ r.Ok ∧ r.Bd ∧
    ∀ (es : List D) (a' c' : Int), (∀ d ∈ es, Shw d) → 0 ≤ a' → c ≤ c' → c' ≤ c + 10 → R (.list es) (L ++ [.lst [.int a', .int b, .int c']])) : WE K (tCall (SpF K bentS) [] E (tCons (tVar i) ts)) δ M R :=
  we_callO ho (wd_mono h fun ds M1 q => by
    obtain ⟨a, b, c, r, rfl, rfl, h1, h2, h3, h4, h5, h6, h7, hR⟩ := q
    refine ⟨_, getL, a, b, c, r, rfl, rfl, h1, h2, h3, h4, h5, h6, h7, fun es a' c' q1 q2 q3 q4 m' e => ?_⟩
    cases e
    rw [setL]
    exact hR es a' c' q1 q2 q3 q4)
end
local macro_rules | `(tactic| walk_at "sp0") => `(tactic| first
  | (with_reducible refine we_spinL rfl ?_) | (with_reducible refine we_rulesL rfl ?_) | (with_reducible refine we_bentL rfl ?_)
  | ((with_reducible refine And.intro (fun hT => ?_) (fun hT => ?_)) <;> (first | (with_reducible exact (nes hT).elim) | (with_reducible exact absurd hT Bool.false_ne_true) | (with_reducible exact absurd hT tnf) | skip))
  | (with_reducible refine od_notB ?_)
  | (with_reducible refine comp_yes (wc_name (by decide) ?_)) | (with_reducible refine comp_nil ?_)
  | ((with_reducible refine And.intro ?we ?_); (case we => first | exact lt_ok rfl))
  | walk_at "wp0"
  | ((with_reducible show CD _ _ [.list _] _); refine cd_tupL ?_))
local macro_rules | `(tactic| walk_at "sp") => `(tactic| repeat' (first | walk_at "sp0" | fail))
section
variable {P : Program} {w : World} {K : Fg} {mg : Str → Option Value} {base : Heap}
theorem ok_law (T : Tx K mg) : FnG P w K mg base 9 T.f_law T.d_law ["script"] (SpF K (lawS 63)) := by
  have G_law_spin := ok_spin (P := P) (w := w) (base := base) T
  have G_law_reel := ok_reel (P := P) (w := w) (base := base) T
  have G_law_rules := ok_rules (P := P) (w := w) (base := base) T
  have G_law_bent := ok_bent (P := P) (w := w) (base := base) T
  have G_law_due := ok_due (P := P) (w := w) (base := base) T
  have G_is_rules := ok_is_rules (P := P) (w := w) (base := base) T
  refine fgok T.F_law sc_law (fun cs M R h => ?_) fun cdv A outer s0 H E hr hg => ⟨_, (pss_cons (ps_for PassesOwn.never rfl (pi_range1 rfl T.n_range (pa_cons (pe_callB (call_max2 rfl) (by rfl) T.n_max (by decide +kernel) (pa_cons pe_int (pa_cons (pe_callB (call_min2 rfl) (by rfl) T.n_min (by decide +kernel) (pa_cons pe_int (pa_cons (pe_callB call_lenD (by rfl) T.n_len (by decide +kernel) (pa_cons (pv 0) pa_nil)) pa_nil))) pa_nil))) pa_nil)) (pg_name (i := 1) sc_law.nd rfl (Or.inl rfl)) (pss_cons (ps_set (i := 3) sc_law.nd rfl (Or.inl rfl) (pg_call G_law_reel (hr.mono (by decide)) hg rfl T.m_law_reel T.F_law_reel.kp T.b_law_reel (pa_cons (pv 0) (pa_cons (pv 1) pa_nil)))) (pss_one (ps_for PassesOwn.never rfl (pi_list (pe_slice sl_list (pe_lst (pa_cons pe_int (pa_cons pe_int (pa_cons (pe_op op_powW pe_int pe_int) pa_nil)))) (po_some (pg_call G_law_spin (hr.mono (by decide)) hg rfl T.m_law_spin T.F_law_spin.kp T.b_law_spin (pa_cons (pv 3) (pa_cons pe_int pa_nil)))) po_none)) (pg_name (i := 4) sc_law.nd rfl (Or.inl rfl)) (pss_cons (ps_set (i := 5) sc_law.nd rfl (Or.inl rfl) (pg_call G_law_rules (hr.mono (by decide)) hg rfl T.m_law_rules T.F_law_rules.kp T.b_law_rules (pa_cons (pv 3) (pa_cons (pv 4) pa_nil)))) (pss_cons (ps_if (pt_cmpR op_notBl (pg_call G_is_rules (hr.mono (by decide)) hg rfl T.m_is_rules T.F_is_rules.kp T.b_is_rules (pa_cons (pv 5) pa_nil)) pe_bl (nomark _)) (pss_one (ps_ret pe_bl)) pss_nil) (pss_one (ps_for PassesOwn.never rfl (pi_list (pg_call G_law_bent (hr.mono (by decide)) hg rfl T.m_law_bent T.F_law_bent.kp T.b_law_bent (pa_cons (pv 3) (pa_cons (pv 5) pa_nil)))) (pg_name (i := 6) sc_law.nd rfl (Or.inl rfl)) (pss_cons (ps_set (i := 7) sc_law.nd rfl (Or.inl rfl) (pe_callB (call_repr hr hg) (by rfl) T.n_repr (by decide +kernel) (pa_cons (pv 6) pa_nil))) (pss_one (ps_if (PW.pt (pw_or (pt_cmpR (op_ne.or (op_neD (u65 hr))) (pe_callB (call_repr hr hg) (by rfl) T.n_repr (by decide +kernel) (pa_cons (pg_call G_is_rules (hr.mono (by decide)) hg rfl T.m_is_rules T.F_is_rules.kp T.b_is_rules (pa_cons (pv 6) pa_nil)) pa_nil)) (pe_callB (call_repr hr hg) (by rfl) T.n_repr (by decide +kernel) (pa_cons (pg_call G_law_due (hr.mono (by decide)) hg rfl T.m_law_due T.F_law_due.kp T.b_law_due (pa_cons (pv 6) pa_nil)) pa_nil)) (nomark _)) (pw_or1 (pt_cmpR (op_ne.or (op_neD (u65 hr))) (pe_callB (call_repr hr hg) (by rfl) T.n_repr (by decide +kernel) (pa_cons (pv 6) pa_nil)) (pv 7) (nomark _))))) (pss_one (ps_ret pe_bl)) pss_nil))))))))))) (pss_cons (ps_set (i := 2) sc_law.nd rfl (Or.inl rfl) (pe_lst (pa_cons (pe_tup (pa_cons pe_int (pa_cons pe_int (pa_cons pe_int (pa_cons pe_int (pa_cons pe_str (pa_cons pe_bl (pa_cons pe_str pa_nil)))))))) (pa_cons (pe_tup (pa_cons pe_int (pa_cons pe_int (pa_cons pe_int (pa_cons pe_int (pa_cons pe_str (pa_cons pe_bl (pa_cons pe_str pa_nil)))))))) (pa_cons (pe_tup (pa_cons pe_int (pa_cons pe_int (pa_cons pe_int (pa_cons pe_int (pa_cons pe_str (pa_cons pe_bl (pa_cons pe_str pa_nil)))))))) pa_nil))))) (pss_one (ps_ret (pe_cmpR (op_eq.or (op_eqD (u65 hr))) (pe_lc (own := [("value", 6)]) rfl sc_law.nd (pi_list (pe_op op_catS (pv 2) (pe_lst (pa_cons (pe_tup (pa_cons pe_int (pa_cons pe_int (pa_cons pe_int (pa_cons pe_int (pa_cons pe_str (pa_cons pe_int (pa_cons pe_str pa_nil)))))))) pa_nil)))) (blkOk_by (own := [("value", 6)]) (N := ["script", "index", "some", "reel", "most", "rules", "value", "kept"]) (sc := defScope s_law) (by decide +kernel)) (fun _ _ _ _ _ => (pg_name (i := 6) sc_law.nd rfl (Or.inl rfl))) (fun _ _ _ _ _ => pts_nil) (fun _ _ _ _ _ => (pg_call G_is_rules (hr.mono (by decide)) hg rfl T.m_is_rules T.F_is_rules.kp T.b_is_rules (pa_cons (pv 6) pa_nil)))) (pe_lst (pa_cons pe_bl (pa_cons pe_bl (pa_cons pe_bl (pa_cons pe_bl pa_nil))))) (nomark _)))))), fun cs M R h => ?_⟩
  · obtain ⟨ns, rfl, _⟩ := h
    rfl
  try simp only [nox_K, cxo_K]
  obtain ⟨ns, rfl, rfl, hlen, hbits, hR⟩ := h
  refine wb_seq (wb_forR1 ?_)
  walk_at "sp"
  refine ⟨by omega, by omega, turns_inv (fun j δ' M' => ∃ x1 x3 x4 x5 x6 x7 : Option C, δ' = [some (.dat (.list (ns.map .int))), x1, none, x3, x4, x5, x6, x7]) ⟨_, _, _, _, _, _, rfl⟩ ?_ ?_⟩
  · rintro j dd _ M0 hj ⟨x1, x3, x4, x5, x6, x7, rfl⟩
    have hjj : ∃ i : Int, dd = .int i ∧ 0 ≤ i ∧ i < 1000 := by
      have h3 := (List.getElem?_eq_some_iff.mp hj).1
      rw [nums_len] at h3
      rw [nums_get h3] at hj
      cases hj
      exact ⟨_, rfl, by omega, by omega⟩
    obtain ⟨ix, rfl, hi0, hi1⟩ := hjj
    clear hj
    refine wg_name ?_
    refine wb_seq (wb_asgO (wl_call ?_))
    walk_at "sp"
    refine ⟨ns, ix, rfl, hi0, hi1, fun a b ha hb hb2 => ?_⟩
    refine wb_forL ?_
    walk_at "sp"
    refine ⟨a, b, 0, 2, rfl, rfl, ha, hb, hb2, by decide, by decide, by decide, by decide, fun z a1 c1 hz0 hz1 ha1 hc1 hc12 => ?_⟩
    walk_at "sp"
    refine turns_inv (fun j δ' M' => ∃ (x4 x5 x6 x7 : Option C) (a' c' : Int), δ' = [some (.dat (.list (ns.map .int))), some (.dat (.int ix)), none, some (.own M0.length), x4, x5, x6, x7] ∧ M' = M0 ++ [.lst [.int a', .int b, .int c']] ∧ 0 ≤ a' ∧ 0 ≤ c' ∧ c' ≤ 1 + 30 * j) ⟨_, _, _, _, _, _, rfl, rfl, ha1, by omega, by omega⟩ ?_ ?_
    · rintro j dd _ _ hj ⟨x4, x5, x6, x7, a2, c2, rfl, rfl, ha2, hc2, hc3⟩
      have hjj : j < 3 ∧ ∃ m : Int, dd = .int m ∧ 0 < m ∧ m ≤ 10 ^ 29 := by
        have h3 := (List.getElem?_eq_some_iff.mp hj).1
        have h4 := cutD_mem (List.mem_of_getElem? hj)
        have h5 := cutD_len [PyData.int 9, .int 9, .int (10 ^ Int.toNat 29)] (some z) none
        simp only [List.mem_cons, List.not_mem_nil, or_false, List.length_cons, List.length_nil] at h4 h5
        refine ⟨by omega, ?_⟩
        rcases h4 with h | h | h <;> exact ⟨_, h, by decide, by decide⟩
      obtain ⟨hj5, m, rfl, hm0, hm1⟩ := hjj
      clear hj
      refine wg_name ?_
      walk_at "sp"
      refine ⟨a2, b, c2, m, rfl, rfl, ha2, hb, hb2, hc2, by omega, hm0, hm1, fun r a3 c3 hok hbd ha3 hc31 hc32 => ?_⟩
      walk_at "sp"
      · rename_i hT
        have h2 : (!decide (isRu r.dat = true)) = true := hT
        rw [isRu_ok hok] at h2
        exact absurd h2 (by decide)
      rename_i hT
      clear hT
      refine wb_forL ?_
      walk_at "sp"
      refine ⟨a3, b, c3, r, rfl, rfl, ha3, hb, hb2, by omega, by omega, hok, hbd, fun es a4 c4 hes ha4 hc41 hc42 => ?_⟩
      walk_at "sp"
      refine turns_inv (fun j2 δ' M' => ∃ (x6 x7 : Option C), δ' = [some (.dat (.list (ns.map .int))), some (.dat (.int ix)), none, some (.own M0.length), some (.dat (.int m)), some (.dat r.dat), x6, x7] ∧ M' = M0 ++ [.lst [.int a4, .int b, .int c4]]) ⟨_, _, rfl, rfl⟩ ?_ ?_
      · rintro j2 d _ _ hj2 ⟨x6, x7, rfl, rfl⟩
        have hd := hes d (List.mem_of_getElem? hj2)
        clear hj2
        refine wg_name ?_
        walk_at "sp"
        refine cd_repr hd ?_
        walk_at "sp"
        refine cd_repr (d := .bool (isRu d)) (shw_bool _) ?_
        walk_at "sp"
        refine cd_repr (d := .bool (isRu d)) (shw_bool _) ?_
        walk_at "sp"
        refine cd_repr hd ?_
        walk_at "sp"
        exact ⟨_, _, rfl, rfl⟩
      · rintro _ _ ⟨x6, x7, rfl, rfl⟩
        exact ⟨_, _, _, _, a4, c4, rfl, rfl, ha4, by omega, by omega⟩
    · rintro _ _ ⟨x4, x5, x6, x7, a1, c1, rfl, rfl, _, _, _⟩
      exact ⟨_, _, _, _, _, _, rfl⟩
  · rintro _ M9 ⟨x1, x3, x4, x5, x6, x7, rfl⟩
    walk_at "sp"
    refine we_wl (wl_lcL ?_)
    walk_at "sp"
    show comp K _ _ _ _ [_, _, _, _] _ _ _ _
    walk_at "sp"
    have k : ∀ b : Bool, b = true → R (.bool b) (List.take ([] : Ms).length M9) := fun b h => h ▸ hR _
    exact k _ (by decide +kernel)
end
end K01

set_option Elab.async false
set_option linter.all false
set_option maxRecDepth 100000
set_option maxHeartbeats 4000000
namespace K01
open PySem L2 Evl PySem.Spec PyProof.Rows PW
theorem keep_fn {K : Fg} {f : Addr} {oc : Value} {od : Option Addr} {sl : Array (Option Value)} {fd : FuncData} (l : K.lookup f = some ⟨oc, od, .func fd, sl⟩) : PySem.W.keepIn K (.ref f) = true := by
  simp only [PySem.W.keepIn, l]
theorem end_mk {l : PySem.W.OpenLaw} {w : World} {K : Fg} {h : Heap} {mg : Str → Option Value} {fa : Addr} (X : K.In h) (G : h.Ns mainGlobals mg) (hfa : mg "law" = some (.ref fa))
    {f_is_whole : Addr} {od_is_whole an_is_whole : Option Addr} {sl_is_whole : Array (Option Value)} {oc_is_whole kV_is_whole dc_is_whole pm_is_whole cd_is_whole ct_is_whole : Value}
    (a_is_whole : PySem.W.nsIn K mainGlobals "is_whole" = some (some (.ref f_is_whole))) (l_is_whole : K.lookup f_is_whole = some ⟨oc_is_whole, od_is_whole, .func (PySem.W.fnOf "is_whole" "is_whole" (defArgs s_is_whole) (defBody s_is_whole) (defScope s_is_whole) .none kV_is_whole dc_is_whole pm_is_whole an_is_whole cd_is_whole ct_is_whole), sl_is_whole⟩)
    (c_is_whole : PySem.W.codeIn K cd_is_whole "is_whole" = true)
    {f_is_whole_from : Addr} {od_is_whole_from an_is_whole_from : Option Addr} {sl_is_whole_from : Array (Option Value)} {oc_is_whole_from kV_is_whole_from dc_is_whole_from pm_is_whole_from cd_is_whole_from ct_is_whole_from : Value}
    (a_is_whole_from : PySem.W.nsIn K mainGlobals "is_whole_from" = some (some (.ref f_is_whole_from))) (l_is_whole_from : K.lookup f_is_whole_from = some ⟨oc_is_whole_from, od_is_whole_from, .func (PySem.W.fnOf "is_whole_from" "is_whole_from" (defArgs s_is_whole_from) (defBody s_is_whole_from) (defScope s_is_whole_from) .none kV_is_whole_from dc_is_whole_from pm_is_whole_from an_is_whole_from cd_is_whole_from ct_is_whole_from), sl_is_whole_from⟩)
    (c_is_whole_from : PySem.W.codeIn K cd_is_whole_from "is_whole_from" = true)
    {f_is_one_of : Addr} {od_is_one_of an_is_one_of : Option Addr} {sl_is_one_of : Array (Option Value)} {oc_is_one_of kV_is_one_of dc_is_one_of pm_is_one_of cd_is_one_of ct_is_one_of : Value}
    (a_is_one_of : PySem.W.nsIn K mainGlobals "is_one_of" = some (some (.ref f_is_one_of))) (l_is_one_of : K.lookup f_is_one_of = some ⟨oc_is_one_of, od_is_one_of, .func (PySem.W.fnOf "is_one_of" "is_one_of" (defArgs s_is_one_of) (defBody s_is_one_of) (defScope s_is_one_of) .none kV_is_one_of dc_is_one_of pm_is_one_of an_is_one_of cd_is_one_of ct_is_one_of), sl_is_one_of⟩)
    (c_is_one_of : PySem.W.codeIn K cd_is_one_of "is_one_of" = true)
    {f_is_rules : Addr} {od_is_rules an_is_rules : Option Addr} {sl_is_rules : Array (Option Value)} {oc_is_rules kV_is_rules dc_is_rules pm_is_rules cd_is_rules ct_is_rules : Value}
    (a_is_rules : PySem.W.nsIn K mainGlobals "is_rules" = some (some (.ref f_is_rules))) (l_is_rules : K.lookup f_is_rules = some ⟨oc_is_rules, od_is_rules, .func (PySem.W.fnOf "is_rules" "is_rules" (defArgs s_is_rules) (defBody s_is_rules) (defScope s_is_rules) .none kV_is_rules dc_is_rules pm_is_rules an_is_rules cd_is_rules ct_is_rules), sl_is_rules⟩)
    (c_is_rules : PySem.W.codeIn K cd_is_rules "is_rules" = true)
    {f_has_form : Addr} {od_has_form an_has_form : Option Addr} {sl_has_form : Array (Option Value)} {oc_has_form kV_has_form dc_has_form pm_has_form cd_has_form ct_has_form : Value}
    (a_has_form : PySem.W.nsIn K mainGlobals "has_form" = some (some (.ref f_has_form))) (l_has_form : K.lookup f_has_form = some ⟨oc_has_form, od_has_form, .func (PySem.W.fnOf "has_form" "has_form" (defArgs s_has_form) (defBody s_has_form) (defScope s_has_form) .none kV_has_form dc_has_form pm_has_form an_has_form cd_has_form ct_has_form), sl_has_form⟩)
    (c_has_form : PySem.W.codeIn K cd_has_form "has_form" = true)
    {f_right_items : Addr} {od_right_items an_right_items : Option Addr} {sl_right_items : Array (Option Value)} {oc_right_items kV_right_items dc_right_items pm_right_items cd_right_items ct_right_items : Value}
    (a_right_items : PySem.W.nsIn K mainGlobals "right_items" = some (some (.ref f_right_items))) (l_right_items : K.lookup f_right_items = some ⟨oc_right_items, od_right_items, .func (PySem.W.fnOf "right_items" "right_items" (defArgs s_right_items) (defBody s_right_items) (defScope s_right_items) .none kV_right_items dc_right_items pm_right_items an_right_items cd_right_items ct_right_items), sl_right_items⟩)
    (c_right_items : PySem.W.codeIn K cd_right_items "right_items" = true)
    {f_law_reel : Addr} {od_law_reel an_law_reel : Option Addr} {sl_law_reel : Array (Option Value)} {oc_law_reel kV_law_reel dc_law_reel pm_law_reel cd_law_reel ct_law_reel : Value}
    (a_law_reel : PySem.W.nsIn K mainGlobals "_law_reel" = some (some (.ref f_law_reel))) (l_law_reel : K.lookup f_law_reel = some ⟨oc_law_reel, od_law_reel, .func (PySem.W.fnOf "_law_reel" "_law_reel" (defArgs s_law_reel) (defBody s_law_reel) (defScope s_law_reel) .none kV_law_reel dc_law_reel pm_law_reel an_law_reel cd_law_reel ct_law_reel), sl_law_reel⟩)
    (c_law_reel : PySem.W.codeIn K cd_law_reel "_law_reel" = true)
    {f_law_spin : Addr} {od_law_spin an_law_spin : Option Addr} {sl_law_spin : Array (Option Value)} {oc_law_spin kV_law_spin dc_law_spin pm_law_spin cd_law_spin ct_law_spin : Value}
    (a_law_spin : PySem.W.nsIn K mainGlobals "_law_spin" = some (some (.ref f_law_spin))) (l_law_spin : K.lookup f_law_spin = some ⟨oc_law_spin, od_law_spin, .func (PySem.W.fnOf "_law_spin" "_law_spin" (defArgs s_law_spin) (defBody s_law_spin) (defScope s_law_spin) .none kV_law_spin dc_law_spin pm_law_spin an_law_spin cd_law_spin ct_law_spin), sl_law_spin⟩)
    (c_law_spin : PySem.W.codeIn K cd_law_spin "_law_spin" = true)
    {f_law_rules : Addr} {od_law_rules an_law_rules : Option Addr} {sl_law_rules : Array (Option Value)} {oc_law_rules kV_law_rules dc_law_rules pm_law_rules cd_law_rules ct_law_rules : Value}
    (a_law_rules : PySem.W.nsIn K mainGlobals "_law_rules" = some (some (.ref f_law_rules))) (l_law_rules : K.lookup f_law_rules = some ⟨oc_law_rules, od_law_rules, .func (PySem.W.fnOf "_law_rules" "_law_rules" (defArgs s_law_rules) (defBody s_law_rules) (defScope s_law_rules) .none kV_law_rules dc_law_rules pm_law_rules an_law_rules cd_law_rules ct_law_rules), sl_law_rules⟩)
    (c_law_rules : PySem.W.codeIn K cd_law_rules "_law_rules" = true)
    {f_law_is_number : Addr} {od_law_is_number an_law_is_number : Option Addr} {sl_law_is_number : Array (Option Value)} {oc_law_is_number kV_law_is_number dc_law_is_number pm_law_is_number cd_law_is_number ct_law_is_number : Value}
    (a_law_is_number : PySem.W.nsIn K mainGlobals "_law_is_number" = some (some (.ref f_law_is_number))) (l_law_is_number : K.lookup f_law_is_number = some ⟨oc_law_is_number, od_law_is_number, .func (PySem.W.fnOf "_law_is_number" "_law_is_number" (defArgs s_law_is_number) (defBody s_law_is_number) (defScope s_law_is_number) .none kV_law_is_number dc_law_is_number pm_law_is_number an_law_is_number cd_law_is_number ct_law_is_number), sl_law_is_number⟩)
    (c_law_is_number : PySem.W.codeIn K cd_law_is_number "_law_is_number" = true)
    {f_law_due : Addr} {od_law_due an_law_due : Option Addr} {sl_law_due : Array (Option Value)} {oc_law_due kV_law_due dc_law_due pm_law_due cd_law_due ct_law_due : Value}
    (a_law_due : PySem.W.nsIn K mainGlobals "_law_due" = some (some (.ref f_law_due))) (l_law_due : K.lookup f_law_due = some ⟨oc_law_due, od_law_due, .func (PySem.W.fnOf "_law_due" "_law_due" (defArgs s_law_due) (defBody s_law_due) (defScope s_law_due) .none kV_law_due dc_law_due pm_law_due an_law_due cd_law_due ct_law_due), sl_law_due⟩)
    (c_law_due : PySem.W.codeIn K cd_law_due "_law_due" = true)
    {f_law_bent : Addr} {od_law_bent an_law_bent : Option Addr} {sl_law_bent : Array (Option Value)} {oc_law_bent kV_law_bent dc_law_bent pm_law_bent cd_law_bent ct_law_bent : Value}
    (a_law_bent : PySem.W.nsIn K mainGlobals "_law_bent" = some (some (.ref f_law_bent))) (l_law_bent : K.lookup f_law_bent = some ⟨oc_law_bent, od_law_bent, .func (PySem.W.fnOf "_law_bent" "_law_bent" (defArgs s_law_bent) (defBody s_law_bent) (defScope s_law_bent) .none kV_law_bent dc_law_bent pm_law_bent an_law_bent cd_law_bent ct_law_bent), sl_law_bent⟩)
    (c_law_bent : PySem.W.codeIn K cd_law_bent "_law_bent" = true)
    {f_law : Addr} {od_law an_law : Option Addr} {sl_law : Array (Option Value)} {oc_law kV_law dc_law pm_law cd_law ct_law : Value}
    (a_law : PySem.W.nsIn K mainGlobals "law" = some (some (.ref f_law))) (l_law : K.lookup f_law = some ⟨oc_law, od_law, .func (PySem.W.fnOf "law" "law" (defArgs s_law) (defBody s_law) (defScope s_law) .none kV_law dc_law pm_law an_law cd_law ct_law), sl_law⟩)
    (c_law : PySem.W.codeIn K cd_law "law" = true)
    {t_MANY_ITEMS : Nat} (a_MANY_ITEMS : PySem.W.nsIn K mainGlobals "MANY_ITEMS" = some (some (.int 7 t_MANY_ITEMS)))
    {q_REMEMBER_WORDS : Addr} {qd_REMEMBER_WORDS : Option Addr} {qs_REMEMBER_WORDS : Array (Option Value)} {qn_REMEMBER_WORDS : Nat} {t_REMEMBER_WORDS_0 t_REMEMBER_WORDS_1 t_REMEMBER_WORDS_2 : Nat}
    (a_REMEMBER_WORDS : PySem.W.nsIn K mainGlobals "REMEMBER_WORDS" = some (some (.ref q_REMEMBER_WORDS))) (l_REMEMBER_WORDS : K.lookup q_REMEMBER_WORDS = some ⟨.type "tuple", qd_REMEMBER_WORDS, .seq #[.str "none" t_REMEMBER_WORDS_0, .str "press" t_REMEMBER_WORDS_1, .str "held" t_REMEMBER_WORDS_2] qn_REMEMBER_WORDS, qs_REMEMBER_WORDS⟩)
    {q_BOTH_WORDS : Addr} {qd_BOTH_WORDS : Option Addr} {qs_BOTH_WORDS : Array (Option Value)} {qn_BOTH_WORDS : Nat} {t_BOTH_WORDS_0 t_BOTH_WORDS_1 t_BOTH_WORDS_2 t_BOTH_WORDS_3 : Nat}
    (a_BOTH_WORDS : PySem.W.nsIn K mainGlobals "BOTH_WORDS" = some (some (.ref q_BOTH_WORDS))) (l_BOTH_WORDS : K.lookup q_BOTH_WORDS = some ⟨.type "tuple", qd_BOTH_WORDS, .seq #[.str "turn" t_BOTH_WORDS_0, .str "stay" t_BOTH_WORDS_1, .str "s" t_BOTH_WORDS_2, .str "l" t_BOTH_WORDS_3] qn_BOTH_WORDS, qs_BOTH_WORDS⟩)
    (z_abs : PySem.W.nsIn K mainGlobals "abs" = some none)
    (z_all : PySem.W.nsIn K mainGlobals "all" = some none)
    (z_bool : PySem.W.nsIn K mainGlobals "bool" = some none)
    (z_int : PySem.W.nsIn K mainGlobals "int" = some none)
    (z_isinstance : PySem.W.nsIn K mainGlobals "isinstance" = some none)
    (z_len : PySem.W.nsIn K mainGlobals "len" = some none)
    (z_list : PySem.W.nsIn K mainGlobals "list" = some none)
    (z_max : PySem.W.nsIn K mainGlobals "max" = some none)
    (z_min : PySem.W.nsIn K mainGlobals "min" = some none)
    (z_range : PySem.W.nsIn K mainGlobals "range" = some none)
    (z_repr : PySem.W.nsIn K mainGlobals "repr" = some none)
    (z_str : PySem.W.nsIn K mainGlobals "str" = some none)
    (z_tuple : PySem.W.nsIn K mainGlobals "tuple" = some none)
    : ∃ fd : FuncData, (∀ (s : Shared) (u : Value), BindsTo s fd ⟨[u], []⟩ [("script", u)]) ∧ ∀ base : Heap, K.In base → base.Ns mainGlobals mg → FnG l.prog w K mg base 9 fa fd ["script"] (SpF K (lawS 63)) := by
  have e := hfa.symm.trans (PySem.W.mg_of X G a_law)
  cases e
  let T : Tx K mg := { f_is_whole := _, d_is_whole := _, F_is_whole := fun_mk (st := s_is_whole) l_is_whole c_is_whole (keep_fn l_is_whole), m_is_whole := PySem.W.mg_of X G a_is_whole, f_is_whole_from := _, d_is_whole_from := _, F_is_whole_from := fun_mk (st := s_is_whole_from) l_is_whole_from c_is_whole_from (keep_fn l_is_whole_from), m_is_whole_from := PySem.W.mg_of X G a_is_whole_from, f_is_one_of := _, d_is_one_of := _, F_is_one_of := fun_mk (st := s_is_one_of) l_is_one_of c_is_one_of (keep_fn l_is_one_of), m_is_one_of := PySem.W.mg_of X G a_is_one_of, f_is_rules := _, d_is_rules := _, F_is_rules := fun_mk (st := s_is_rules) l_is_rules c_is_rules (keep_fn l_is_rules), m_is_rules := PySem.W.mg_of X G a_is_rules, f_has_form := _, d_has_form := _, F_has_form := fun_mk (st := s_has_form) l_has_form c_has_form (keep_fn l_has_form), m_has_form := PySem.W.mg_of X G a_has_form, f_right_items := _, d_right_items := _, F_right_items := fun_mk (st := s_right_items) l_right_items c_right_items (keep_fn l_right_items), m_right_items := PySem.W.mg_of X G a_right_items, f_law_reel := _, d_law_reel := _, F_law_reel := fun_mk (st := s_law_reel) l_law_reel c_law_reel (keep_fn l_law_reel), m_law_reel := PySem.W.mg_of X G a_law_reel, f_law_spin := _, d_law_spin := _, F_law_spin := fun_mk (st := s_law_spin) l_law_spin c_law_spin (keep_fn l_law_spin), m_law_spin := PySem.W.mg_of X G a_law_spin, f_law_rules := _, d_law_rules := _, F_law_rules := fun_mk (st := s_law_rules) l_law_rules c_law_rules (keep_fn l_law_rules), m_law_rules := PySem.W.mg_of X G a_law_rules, f_law_is_number := _, d_law_is_number := _, F_law_is_number := fun_mk (st := s_law_is_number) l_law_is_number c_law_is_number (keep_fn l_law_is_number), m_law_is_number := PySem.W.mg_of X G a_law_is_number, f_law_due := _, d_law_due := _, F_law_due := fun_mk (st := s_law_due) l_law_due c_law_due (keep_fn l_law_due), m_law_due := PySem.W.mg_of X G a_law_due, f_law_bent := _, d_law_bent := _, F_law_bent := fun_mk (st := s_law_bent) l_law_bent c_law_bent (keep_fn l_law_bent), m_law_bent := PySem.W.mg_of X G a_law_bent, f_law := _, d_law := _, F_law := fun_mk (st := s_law) l_law c_law (keep_fn l_law), m_law := PySem.W.mg_of X G a_law, b_is_whole := (fun_mk (st := s_is_whole) l_is_whole c_is_whole (keep_fn l_is_whole)).binds (ps := ["value"]) fun _ _ _ _ _ _ us hl => match us, hl with | [_], _ => rfl, b_is_whole_from := (fun_mk (st := s_is_whole_from) l_is_whole_from c_is_whole_from (keep_fn l_is_whole_from)).binds (ps := ["value", "least"]) fun _ _ _ _ _ _ us hl => match us, hl with | [_, _], _ => rfl, b_is_one_of := (fun_mk (st := s_is_one_of) l_is_one_of c_is_one_of (keep_fn l_is_one_of)).binds (ps := ["value", "words"]) fun _ _ _ _ _ _ us hl => match us, hl with | [_, _], _ => rfl, b_is_rules := (fun_mk (st := s_is_rules) l_is_rules c_is_rules (keep_fn l_is_rules)).binds (ps := ["value"]) fun _ _ _ _ _ _ us hl => match us, hl with | [_], _ => rfl, b_has_form := (fun_mk (st := s_has_form) l_has_form c_has_form (keep_fn l_has_form)).binds (ps := ["value"]) fun _ _ _ _ _ _ us hl => match us, hl with | [_], _ => rfl, b_right_items := (fun_mk (st := s_right_items) l_right_items c_right_items (keep_fn l_right_items)).binds (ps := ["items"]) fun _ _ _ _ _ _ us hl => match us, hl with | [_], _ => rfl, b_law_reel := (fun_mk (st := s_law_reel) l_law_reel c_law_reel (keep_fn l_law_reel)).binds (ps := ["script", "index"]) fun _ _ _ _ _ _ us hl => match us, hl with | [_, _], _ => rfl, b_law_spin := (fun_mk (st := s_law_spin) l_law_spin c_law_spin (keep_fn l_law_spin)).binds (ps := ["reel", "many"]) fun _ _ _ _ _ _ us hl => match us, hl with | [_, _], _ => rfl, b_law_rules := (fun_mk (st := s_law_rules) l_law_rules c_law_rules (keep_fn l_law_rules)).binds (ps := ["reel", "most"]) fun _ _ _ _ _ _ us hl => match us, hl with | [_, _], _ => rfl, b_law_is_number := (fun_mk (st := s_law_is_number) l_law_is_number c_law_is_number (keep_fn l_law_is_number)).binds (ps := ["value", "minimum"]) fun _ _ _ _ _ _ us hl => match us, hl with | [_, _], _ => rfl, b_law_due := (fun_mk (st := s_law_due) l_law_due c_law_due (keep_fn l_law_due)).binds (ps := ["value"]) fun _ _ _ _ _ _ us hl => match us, hl with | [_], _ => rfl, b_law_bent := (fun_mk (st := s_law_bent) l_law_bent c_law_bent (keep_fn l_law_bent)).binds (ps := ["reel", "rules"]) fun _ _ _ _ _ _ us hl => match us, hl with | [_, _], _ => rfl, b_law := (fun_mk (st := s_law) l_law c_law (keep_fn l_law)).binds (ps := ["script"]) fun _ _ _ _ _ _ us hl => match us, hl with | [_], _ => rfl, v_MANY_ITEMS := .int 7, u_MANY_ITEMS := .int 7 t_MANY_ITEMS, m_MANY_ITEMS := PySem.W.mg_of X G a_MANY_ITEMS, r_MANY_ITEMS := ⟨_, rfl⟩, p_MANY_ITEMS := fun H => .int _, v_REMEMBER_WORDS := .ref q_REMEMBER_WORDS, u_REMEMBER_WORDS := .ref q_REMEMBER_WORDS, m_REMEMBER_WORDS := PySem.W.mg_of X G a_REMEMBER_WORDS, r_REMEMBER_WORDS := rfl, p_REMEMBER_WORDS := fun H => .tup (xs := [V.str "none", V.str "press", V.str "held"]) (.inr ⟨_, _, _, l_REMEMBER_WORDS, rfl, rfl, len_ok rfl, (.cons ⟨_, rfl⟩ (.cons ⟨_, rfl⟩ (.cons ⟨_, rfl⟩ .nil)))⟩) (.cons (.str _) (.cons (.str _) (.cons (.str _) .nil))), v_BOTH_WORDS := .ref q_BOTH_WORDS, u_BOTH_WORDS := .ref q_BOTH_WORDS, m_BOTH_WORDS := PySem.W.mg_of X G a_BOTH_WORDS, r_BOTH_WORDS := rfl, p_BOTH_WORDS := fun H => .tup (xs := [V.str "turn", V.str "stay", V.str "s", V.str "l"]) (.inr ⟨_, _, _, l_BOTH_WORDS, rfl, rfl, len_ok rfl, (.cons ⟨_, rfl⟩ (.cons ⟨_, rfl⟩ (.cons ⟨_, rfl⟩ (.cons ⟨_, rfl⟩ .nil))))⟩) (.cons (.str _) (.cons (.str _) (.cons (.str _) (.cons (.str _) .nil)))), n_abs := PySem.W.mg_none_of X G z_abs, n_all := PySem.W.mg_none_of X G z_all, n_bool := PySem.W.mg_none_of X G z_bool, n_int := PySem.W.mg_none_of X G z_int, n_isinstance := PySem.W.mg_none_of X G z_isinstance, n_len := PySem.W.mg_none_of X G z_len, n_list := PySem.W.mg_none_of X G z_list, n_max := PySem.W.mg_none_of X G z_max, n_min := PySem.W.mg_none_of X G z_min, n_range := PySem.W.mg_none_of X G z_range, n_repr := PySem.W.mg_none_of X G z_repr, n_str := PySem.W.mg_none_of X G z_str, n_tuple := PySem.W.mg_none_of X G z_tuple }
  refine ⟨T.d_law, fun s v => .of_eq rfl, fun base _ _ => ok_law T⟩
end K01
open PySem PySem.W PyProof.Rows
set_option maxRecDepth 100000 in
set_option maxHeartbeats 0 in
theorem PySem.Challenge.cw_squeezedkeyer_k01_rules_judged_holds : PySem.Challenge.rw_squeezedkeyer_k01_rules_judged.Holds := by
  w_on; o_law; k_head; (case hw => w_witness2)
  k_fill
  refine PW.walk_g (l := PySem.Challenge.rw_squeezedkeyer_k01_rules_judged) (n := 63) (k := 9) (x := "script") rfl (by decide) rfl ⟨rfl, by decide, by decide⟩ (fun w h Y => PySem.W.kIn_of Y) ?F
  case F =>
    intro w mg fa h KX G hmg
    refine' K01.end_mk KX G hmg ?a_is_whole ?l_is_whole ?c_is_whole ?a_is_whole_from ?l_is_whole_from ?c_is_whole_from ?a_is_one_of ?l_is_one_of ?c_is_one_of ?a_is_rules ?l_is_rules ?c_is_rules ?a_has_form ?l_has_form ?c_has_form ?a_right_items ?l_right_items ?c_right_items ?a_law_reel ?l_law_reel ?c_law_reel ?a_law_spin ?l_law_spin ?c_law_spin ?a_law_rules ?l_law_rules ?c_law_rules ?a_law_is_number ?l_law_is_number ?c_law_is_number ?a_law_due ?l_law_due ?c_law_due ?a_law_bent ?l_law_bent ?c_law_bent ?a_law ?l_law ?c_law ?a_MANY_ITEMS ?a_REMEMBER_WORDS ?l_REMEMBER_WORDS ?a_BOTH_WORDS ?l_BOTH_WORDS ?z_abs ?z_all ?z_bool ?z_int ?z_isinstance ?z_len ?z_list ?z_max ?z_min ?z_range ?z_repr ?z_str ?z_tuple
    (case a_is_whole => k_is)
    (case l_is_whole => k_is)
    (case c_is_whole => k_is)
    (case a_is_whole_from => k_is)
    (case l_is_whole_from => k_is)
    (case c_is_whole_from => k_is)
    (case a_is_one_of => k_is)
    (case l_is_one_of => k_is)
    (case c_is_one_of => k_is)
    (case a_is_rules => k_is)
    (case l_is_rules => k_is)
    (case c_is_rules => k_is)
    (case a_has_form => k_is)
    (case l_has_form => k_is)
    (case c_has_form => k_is)
    (case a_right_items => k_is)
    (case l_right_items => k_is)
    (case c_right_items => k_is)
    (case a_law_reel => k_is)
    (case l_law_reel => k_is)
    (case c_law_reel => k_is)
    (case a_law_spin => k_is)
    (case l_law_spin => k_is)
    (case c_law_spin => k_is)
    (case a_law_rules => k_is)
    (case l_law_rules => k_is)
    (case c_law_rules => k_is)
    (case a_law_is_number => k_is)
    (case l_law_is_number => k_is)
    (case c_law_is_number => k_is)
    (case a_law_due => k_is)
    (case l_law_due => k_is)
    (case c_law_due => k_is)
    (case a_law_bent => k_is)
    (case l_law_bent => k_is)
    (case c_law_bent => k_is)
    (case a_law => k_is)
    (case l_law => k_is)
    (case c_law => k_is)
    (case a_MANY_ITEMS => k_is)
    (case a_REMEMBER_WORDS => k_is)
    (case l_REMEMBER_WORDS => k_is)
    (case a_BOTH_WORDS => k_is)
    (case l_BOTH_WORDS => k_is)
    (case z_abs => k_is)
    (case z_all => k_is)
    (case z_bool => k_is)
    (case z_int => k_is)
    (case z_isinstance => k_is)
    (case z_len => k_is)
    (case z_list => k_is)
    (case z_max => k_is)
    (case z_min => k_is)
    (case z_range => k_is)
    (case z_repr => k_is)
    (case z_str => k_is)
    (case z_tuple => k_is)
