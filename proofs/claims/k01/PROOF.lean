import PyProof.Rows.All
import Wide.All
import OpenK.AllK
import Wide.FinOn
import HandS.ForMost
import HandS.Conv
import HandS.IsInst
import HandS.Gcd
import HandS.Wide
import HandS.TupAny
import HandS.ExcInit
import HandS.ExcIs
import KE.KExcIs
import PyProof.ReprLen
import HandS.EndBits
import PyProof.P3Eq
import PySem.Challenge.RW_partedmeet_k01_small_forms_of_any_value
set_option Elab.async false
set_option linter.all false
set_option maxRecDepth 100000
set_option maxHeartbeats 2000000
namespace Y
open PySem L2

/-- a value over the store: a tuple is its parts, a list or a dict an address of the store -/
inductive U where
  | non | bl (b : Bool) | int (i : Int) | str (x : Str) | tup (xs : List U) | rol (xs : List U) | loc (a : Addr) | ty (n : String)
  | exc (C : Addr) (fs : List (Str × U))

/-- what stands in the store -/
inductive Ob where
  | lst (xs : List U)
  | dct (kvs : List (Key × U))
abbrev Sto := Addr → Option Ob
def sput (S : Sto) (a : Addr) (o : Ob) : Sto := fun b => if b = a then some o else S b
theorem sput_same {S : Sto} {a : Addr} {o : Ob} : sput S a o a = some o := by unfold sput; rw [if_pos rfl]
theorem sput_ne {S : Sto} {a b : Addr} {o : Ob} (h : b ≠ a) : sput S a o b = S b := by unfold sput; rw [if_neg h]
theorem sput_sput {S : Sto} {a : Addr} {o u : Ob} : sput (sput S a o) a u = sput S a u := by
  funext b; unfold sput; split <;> rfl
def Wr (S : Sto) (a : Addr) : Prop := ∃ o, S a = some o

/-- a list that is read alone: frozen, or of the written part -/
def FrzL (K : PySem.W.Frag) (H : Hp) (a : Addr) (xs : List V) : Prop :=
  (∃ o, H a = some (.frz o (.lst xs))) ∨
    ∃ (o : Obj) (its : Array Value) (n : Nat), K.lookup a = some o ∧ o.cls = .type "list" ∧ o.dict = none ∧ o.data = .seq its n ∧ its.size ≤ sizeLine ∧ Vals xs its.toList
theorem FrzL.sq {K : PySem.W.Frag} {H : Hp} {a : Addr} {xs : List V} (h : FrzL K H a xs) : SqL K H a xs := by
  rcases h with h | h
  · exact .inl (.inr h)
  · exact .inr h
mutual
def RU (K : PySem.W.Frag) (H : Hp) : U → V → Prop
  | .non, v => v = .non
  | .bl b, v => v = .bl b
  | .int i, v => v = .int i
  | .str x, v => v = .str x
  | .tup us, v => ∃ p vs, v = .ref p ∧ SqT K H p vs ∧ RUs K H us vs
  | .rol us, v => ∃ p vs, v = .ref p ∧ FrzL K H p vs ∧ RUs K H us vs
  | .loc a, v => v = .ref a
  | .ty n, v => v = .ty n
  | .exc C fs, v => ∃ a d vs, v = .ref a ∧ H a = some (exo a C (some d)) ∧ H d = some (exd d vs) ∧ RFs K H fs vs
def RUs (K : PySem.W.Frag) (H : Hp) : List U → List V → Prop
  | [], vs => vs = []
  | u :: us, vs => ∃ w ws, vs = w :: ws ∧ RU K H u w ∧ RUs K H us ws
def RFs (K : PySem.W.Frag) (H : Hp) : List (Str × U) → List (Str × V) → Prop
  | [], vs => vs = []
  | (f, u) :: us, vs => ∃ w ws, vs = (f, w) :: ws ∧ RU K H u w ∧ RFs K H us ws
end
def RKs (K : PySem.W.Frag) (H : Hp) : List (Key × U) → List (Key × V) → Prop
  | [], vs => vs = []
  | u :: us, vs => ∃ w ws, vs = (u.1, w) :: ws ∧ RU K H u.2 w ∧ RKs K H us ws

def RO (K : PySem.W.Frag) (H : Hp) (a : Addr) : Ob → Prop
  | .lst us => ∃ vs, H a = some (.lst vs) ∧ RUs K H us vs
  | .dct us => ∃ vs, H a = some (.dK vs) ∧ RKs K H us vs
def SO (K : PySem.W.Frag) (H : Hp) (S : Sto) : Prop := ∀ a o, S a = some o → RO K H a o

structure Ext (S : Sto) (H : Hp) (S' : Sto) (H' : Hp) : Prop where
  keep : ∀ a o, H a = some o → ¬ Wr S a → H' a = some o
  dom : ∀ a, Wr S' a → Wr S a ∨ H a = none
  live : ∀ a, H' a = none → H a = none
theorem Ext.refl (S : Sto) (H : Hp) : Ext S H S H := ⟨fun _ _ h _ => h, fun _ h => .inl h, fun _ h => h⟩
theorem Ext.trans {S S1 S2 : Sto} {H H1 H2 : Hp} (a : Ext S H S1 H1) (b : Ext S1 H1 S2 H2) : Ext S H S2 H2 := by
  refine ⟨fun x o h n => b.keep x o (a.keep x o h n) fun w => ?_, fun x h => ?_, fun x h => a.live x (b.live x h)⟩
  · rcases a.dom x w with z | z
    · exact n z
    · rw [h] at z; cases z
  · rcases b.dom x h with z | z
    · exact a.dom x z
    · exact .inr (a.live x z)
theorem wr_not_tup {K : PySem.W.Frag} {H : Hp} {S : Sto} (so : SO K H S) {a : Addr} {u : HO} (h : H a = some u) (hl : ∀ vs, u ≠ .lst vs) (hd : ∀ vs, u ≠ .dK vs) : ¬ Wr S a := by
  rintro ⟨o, e⟩
  have r := so a o e
  cases o with
  | lst us =>
    obtain ⟨vs, e2, _⟩ := r
    rw [h] at e2
    exact hl vs (Option.some.inj e2)
  | dct us =>
    obtain ⟨vs, e2, _⟩ := r
    rw [h] at e2
    exact hd vs (Option.some.inj e2)
theorem Ext.rd {K : PySem.W.Frag} {S S' : Sto} {H H' : Hp} (so : SO K H S) (e : Ext S H S' H') {a : Addr} {xs : List V} (h : Rd H a (.tup xs)) : Rd H' a (.tup xs) := by
  rcases h with h | ⟨o, h⟩
  · exact .inl (e.keep a _ h (wr_not_tup so h (fun _ z => nomatch z) (fun _ z => nomatch z)))
  · exact .inr ⟨o, e.keep a _ h (wr_not_tup so h (fun _ z => nomatch z) (fun _ z => nomatch z))⟩
theorem Ext.sqT {K : PySem.W.Frag} {S S' : Sto} {H H' : Hp} (so : SO K H S) (e : Ext S H S' H') {a : Addr} {xs : List V} (h : SqT K H a xs) : SqT K H' a xs := by
  rcases h with h | h
  · exact .inl (e.rd so h)
  · exact .inr h
theorem Ext.frz {K : PySem.W.Frag} {S S' : Sto} {H H' : Hp} (so : SO K H S) (e : Ext S H S' H') {a : Addr} {xs : List V} (h : FrzL K H a xs) : FrzL K H' a xs := by
  rcases h with ⟨o, h⟩ | h
  · exact .inl ⟨o, e.keep a _ h (wr_not_tup so h (fun _ z => nomatch z) (fun _ z => nomatch z))⟩
  · exact .inr h
theorem Ext.xt {K : PySem.W.Frag} {S S' : Sto} {H H' : Hp} (so : SO K H S) (e : Ext S H S' H') {a : Addr} {φ : Heap → Prop} (h : H a = some (.ext φ)) : H' a = some (.ext φ) :=
  e.keep a _ h (wr_not_tup so h (fun _ z => nomatch z) (fun _ z => nomatch z))

section
variable {K : PySem.W.Frag} {H H' : Hp}
mutual
theorem RU.mono (m : ∀ a xs, SqT K H a xs → SqT K H' a xs) (f : ∀ a xs, FrzL K H a xs → FrzL K H' a xs) (g : ∀ a φ, H a = some (.ext φ) → H' a = some (.ext φ)) : ∀ (u : U) (v : V), RU K H u v → RU K H' u v
  | .non, _, h => h
  | .bl _, _, h => h
  | .int _, _, h => h
  | .str _, _, h => h
  | .loc _, _, h => h
  | .ty _, _, h => h
  | .tup us, _, h => by
    obtain ⟨p, vs, e, s, r⟩ := h
    exact ⟨p, vs, e, m _ _ s, RUs.mono m f g us vs r⟩
  | .rol us, _, h => by
    obtain ⟨p, vs, e, s, r⟩ := h
    exact ⟨p, vs, e, f _ _ s, RUs.mono m f g us vs r⟩
  | .exc C fs, _, h => by
    obtain ⟨a, d, vs, e, h1, h2, r⟩ := h
    exact ⟨a, d, vs, e, g _ _ h1, g _ _ h2, RFs.mono m f g fs vs r⟩
theorem RUs.mono (m : ∀ a xs, SqT K H a xs → SqT K H' a xs) (f : ∀ a xs, FrzL K H a xs → FrzL K H' a xs) (g : ∀ a φ, H a = some (.ext φ) → H' a = some (.ext φ)) : ∀ (us : List U) (vs : List V), RUs K H us vs → RUs K H' us vs
  | [], _, h => h
  | u :: us, _, h => by
    obtain ⟨w, ws, e, r, rs⟩ := h
    exact ⟨w, ws, e, RU.mono m f g u w r, RUs.mono m f g us ws rs⟩
theorem RFs.mono (m : ∀ a xs, SqT K H a xs → SqT K H' a xs) (f : ∀ a xs, FrzL K H a xs → FrzL K H' a xs) (g : ∀ a φ, H a = some (.ext φ) → H' a = some (.ext φ)) : ∀ (us : List (Str × U)) (vs : List (Str × V)), RFs K H us vs → RFs K H' us vs
  | [], _, h => h
  | (n, u) :: us, _, h => by
    obtain ⟨w, ws, e, r, rs⟩ := h
    exact ⟨w, ws, e, RU.mono m f g u w r, RFs.mono m f g us ws rs⟩
end
theorem RKs.mono (m : ∀ a xs, SqT K H a xs → SqT K H' a xs) (f : ∀ a xs, FrzL K H a xs → FrzL K H' a xs) (g : ∀ a φ, H a = some (.ext φ) → H' a = some (.ext φ)) : ∀ (us : List (Key × U)) (vs : List (Key × V)), RKs K H us vs → RKs K H' us vs
  | [], _, h => h
  | u :: us, _, h => by
    obtain ⟨w, ws, e, r, rs⟩ := h
    exact ⟨w, ws, e, RU.mono m f g u.2 w r, RKs.mono m f g us ws rs⟩
theorem RUs.nil_eq {vs : List V} (h : RUs K H [] vs) : vs = [] := h
theorem RUs.length : ∀ {us : List U} {vs : List V}, RUs K H us vs → us.length = vs.length
  | [], _, h => by rw [RUs.nil_eq h]; rfl
  | u :: us, _, h => by
    obtain ⟨w, ws, e, _, rs⟩ := h
    rw [e, List.length_cons, List.length_cons, RUs.length rs]
theorem RUs.append : ∀ {us us' : List U} {vs vs' : List V}, RUs K H us vs → RUs K H us' vs' → RUs K H (us ++ us') (vs ++ vs')
  | [], _, _, _, h, h' => by rw [RUs.nil_eq h]; exact h'
  | u :: us, _, _, _, h, h' => by
    obtain ⟨w, ws, e, r, rs⟩ := h
    rw [e]
    exact ⟨w, _, rfl, r, RUs.append rs h'⟩
theorem RUs.get : ∀ {us : List U} {vs : List V} {i : Nat} {u : U}, RUs K H us vs → us[i]? = some u → ∃ v, vs[i]? = some v ∧ RU K H u v
  | [], _, _, _, _, e => by simp at e
  | u :: us, _, 0, x, h, e => by
    obtain ⟨w, ws, e2, r, rs⟩ := h
    simp at e
    subst e
    exact ⟨w, by rw [e2]; rfl, r⟩
  | u :: us, _, i + 1, x, h, e => by
    obtain ⟨w, ws, e2, r, rs⟩ := h
    obtain ⟨v, h1, h2⟩ := RUs.get (i := i) (u := x) rs (by simpa using e)
    exact ⟨v, by rw [e2]; simpa using h1, h2⟩
theorem RUs.getV : ∀ {us : List U} {vs : List V} {i : Nat} {v : V}, RUs K H us vs → vs[i]? = some v → ∃ u, us[i]? = some u ∧ RU K H u v
  | [], _, _, _, h, e => by rw [RUs.nil_eq h] at e; simp at e
  | u :: us, _, 0, x, h, e => by
    obtain ⟨w, ws, e2, r, rs⟩ := h
    rw [e2] at e
    simp at e
    subst e
    exact ⟨u, rfl, r⟩
  | u :: us, _, i + 1, x, h, e => by
    obtain ⟨w, ws, e2, r, rs⟩ := h
    rw [e2] at e
    obtain ⟨v, h1, h2⟩ := RUs.getV (i := i) (v := x) rs (by simpa using e)
    exact ⟨v, by simpa using h1, h2⟩
theorem RUs.set {u : U} {v : V} (r : RU K H u v) : ∀ {us : List U} {vs : List V} (i : Nat), RUs K H us vs → RUs K H (us.set i u) (vs.set i v)
  | [], _, _, h => by rw [RUs.nil_eq h]; exact rfl
  | _ :: us, _, 0, h => by
    obtain ⟨w, ws, e2, r', rs⟩ := h
    rw [e2]
    exact ⟨v, ws, rfl, r, rs⟩
  | _ :: us, _, i + 1, h => by
    obtain ⟨w, ws, e2, r', rs⟩ := h
    rw [e2]
    exact ⟨w, _, rfl, r', RUs.set r i rs⟩
theorem RUs.take : ∀ {us : List U} {vs : List V} (n : Nat), RUs K H us vs → RUs K H (us.take n) (vs.take n)
  | _, _, 0, h => by simp; exact rfl
  | [], _, n + 1, h => by rw [RUs.nil_eq h]; exact rfl
  | u :: us, _, n + 1, h => by
    obtain ⟨w, ws, e2, r', rs⟩ := h
    rw [e2]
    exact ⟨w, _, rfl, r', RUs.take n rs⟩
theorem RUs.drop : ∀ {us : List U} {vs : List V} (n : Nat), RUs K H us vs → RUs K H (us.drop n) (vs.drop n)
  | us, vs, 0, h => by simpa using h
  | [], _, n + 1, h => by rw [RUs.nil_eq h]; exact rfl
  | u :: us, _, n + 1, h => by
    obtain ⟨w, ws, e2, r', rs⟩ := h
    rw [e2]
    exact RUs.drop n rs
theorem RUs.one {u : U} {v : V} (r : RU K H u v) : RUs K H [u] [v] := ⟨v, [], rfl, r, rfl⟩
end
theorem Ext.ru {K : PySem.W.Frag} {S S' : Sto} {H H' : Hp} (so : SO K H S) (e : Ext S H S' H') {u : U} {v : V} (r : RU K H u v) : RU K H' u v := RU.mono (fun _ _ => e.sqT so) (fun _ _ => e.frz so) (fun _ _ => e.xt so) u v r
theorem Ext.rus {K : PySem.W.Frag} {S S' : Sto} {H H' : Hp} (so : SO K H S) (e : Ext S H S' H') {u : List U} {v : List V} (r : RUs K H u v) : RUs K H' u v := RUs.mono (fun _ _ => e.sqT so) (fun _ _ => e.frz so) (fun _ _ => e.xt so) u v r
theorem Ext.rks {K : PySem.W.Frag} {S S' : Sto} {H H' : Hp} (so : SO K H S) (e : Ext S H S' H') {u : List (Key × U)} {v : List (Key × V)} (r : RKs K H u v) : RKs K H' u v := RKs.mono (fun _ _ => e.sqT so) (fun _ _ => e.frz so) (fun _ _ => e.xt so) u v r

abbrev Ev := List (Option U)
abbrev UK := U → Sto → Prop
abbrev UE := Ev → Sto → UK → Prop
abbrev UT := Ev → Sto → (Bool → Sto → Prop) → Prop
abbrev UL := Ev → Sto → (List U → Sto → Prop) → Prop
structure UD where
  nx : Ev → Sto → Prop
  rt : UK
  bk : Ev → Sto → Prop := fun _ _ => False
  ct : Ev → Sto → Prop := fun _ _ => False
abbrev US := UD → Ev → Sto → Prop

structure REnv (K : PySem.W.Frag) (H : Hp) (σu : Ev) (σ : St) : Prop where
  len : σ.length = σu.length
  get : ∀ (i : Nat) (u : U), σu[i]? = some (some u) → ∃ v : V, σ[i]? = some (some v) ∧ RU K H u v
theorem REnv.ext {K : PySem.W.Frag} {S S' : Sto} {H H' : Hp} {σu : Ev} {σ : St} (so : SO K H S) (e : Ext S H S' H') (r : REnv K H σu σ) : REnv K H' σu σ :=
  ⟨r.len, fun i u h => let ⟨v, h1, h2⟩ := r.get i u h; ⟨v, h1, e.ru so h2⟩⟩
theorem REnv.set {K : PySem.W.Frag} {H : Hp} {σu : Ev} {σ : St} (r : REnv K H σu σ) (i : Nat) {u : U} {v : V} (h : RU K H u v) : REnv K H (σu.set i (some u)) (σ.set i (some v)) := by
  refine ⟨by rw [List.length_set, List.length_set, r.len], fun j w e => ?_⟩
  by_cases q : j = i
  · subst q
    have hl : j < σu.length := by
      have := (List.getElem?_eq_some_iff.mp e).1
      rwa [List.length_set] at this
    rw [List.getElem?_set_self hl] at e
    have e' := Option.some.inj (Option.some.inj e)
    subst e'
    exact ⟨v, by rw [List.getElem?_set_self (by rw [r.len]; exact hl)], h⟩
  · rw [List.getElem?_set_ne (Ne.symm q)] at e
    obtain ⟨v', h1, h2⟩ := r.get j w e
    exact ⟨v', by rw [List.getElem?_set_ne (Ne.symm q)]; exact h1, h2⟩
def uwipe (σ : Ev) : List Nat → Ev
  | [] => σ
  | v :: vs => (uwipe σ vs).set v none
theorem REnv.wipe {K : PySem.W.Frag} {H : Hp} {σu : Ev} {σ : St} (r : REnv K H σu σ) : ∀ vs : List Nat, REnv K H (uwipe σu vs) (L2.wipe σ vs)
  | [] => r
  | v :: vs => by
    have ih := REnv.wipe r vs
    refine ⟨by unfold uwipe L2.wipe; rw [List.length_set, List.length_set, ih.len], fun j w e => ?_⟩
    unfold uwipe at e
    unfold L2.wipe
    by_cases q : j = v
    · subst q
      have hl : j < (uwipe σu vs).length := by
        have := (List.getElem?_eq_some_iff.mp e).1
        rwa [List.length_set] at this
      rw [List.getElem?_set_self hl] at e
      cases e
    · rw [List.getElem?_set_ne (Ne.symm q)] at e
      obtain ⟨v', h1, h2⟩ := ih.get j w e
      exact ⟨v', by rw [List.getElem?_set_ne (Ne.symm q)]; exact h1, h2⟩

/-- what is wanted behind, over values of ours -/
def Post (K : PySem.W.Frag) (S : Sto) (H : Hp) (P : UK) (Q : VK) : Prop := ∀ u S' v H', P u S' → RU K H' u v → SO K H' S' → Ext S H S' H' → Q v H'
def PostT (K : PySem.W.Frag) (S : Sto) (H : Hp) (P : Bool → Sto → Prop) (Q : Bool → Hp → Prop) : Prop := ∀ b S' H', P b S' → SO K H' S' → Ext S H S' H' → Q b H'
def PostA (K : PySem.W.Frag) (S : Sto) (H : Hp) (P : List U → Sto → Prop) (Q : List V → Hp → Prop) : Prop := ∀ us S' vs H', P us S' → RUs K H' us vs → SO K H' S' → Ext S H S' H' → Q vs H'
/-- a new list, known to nobody -/
def PostF (K : PySem.W.Frag) (S : Sto) (H : Hp) (P : List U → Sto → Prop) (Q : VK) : Prop := ∀ us S' p vs H', P us S' → H p = none → ¬ Wr S' p → H' p = some (.lst vs) → RUs K H' us vs → SO K H' S' → Ext S H S' H' → Q (.ref p) H'
/-- a list to be read -/
def PostL (K : PySem.W.Frag) (S : Sto) (H : Hp) (P : List U → Sto → Prop) (Q : VK) : Prop := ∀ us S' p vs H', P us S' → SqL K H' p vs → RUs K H' us vs → SO K H' S' → Ext S H S' H' → Q (.ref p) H'

def tW (K : PySem.W.Frag) (e : UE) : TE := fun σ H Q => ∃ σu S P, REnv K H σu σ ∧ SO K H S ∧ e σu S P ∧ Post K S H P Q
def tWT (K : PySem.W.Frag) (e : UT) : TT := fun σ H Q => ∃ σu S P, REnv K H σu σ ∧ SO K H S ∧ e σu S P ∧ PostT K S H P Q
def tWA (K : PySem.W.Frag) (e : UL) : TA := fun σ H Q => ∃ σu S P, REnv K H σu σ ∧ SO K H S ∧ e σu S P ∧ PostA K S H P Q
def tWF (K : PySem.W.Frag) (e : UL) : TE := fun σ H Q => ∃ σu S P, REnv K H σu σ ∧ SO K H S ∧ e σu S P ∧ PostF K S H P Q
def tWL (K : PySem.W.Frag) (e : UL) : TE := fun σ H Q => ∃ σu S P, REnv K H σu σ ∧ SO K H S ∧ e σu S P ∧ PostL K S H P Q
def tWS (K : PySem.W.Frag) (t : US) : TS := fun D σ H => ∃ σu S, ∃ G : UD, REnv K H σu σ ∧ SO K H S ∧ t G σu S ∧
  (∀ σu' S' σ' H', G.nx σu' S' → REnv K H' σu' σ' → SO K H' S' → Ext S H S' H' → D.nx σ' H') ∧ Post K S H G.rt D.rt ∧
  (∀ σu' S' σ' H', G.bk σu' S' → REnv K H' σu' σ' → SO K H' S' → Ext S H S' H' → D.bk σ' H') ∧ (∀ σu' S' σ' H', G.ct σu' S' → REnv K H' σu' σ' → SO K H' S' → Ext S H S' H' → D.ct σ' H')

/-! ### readings weakened -/
theorem PE.imp {X : Cx} {e : Expr} {t t' : TE} (h : PE X e t) (i : ∀ σ H Q, t' σ H Q → t σ H Q) : PE X e t' := ⟨fun pins s σ H Q I w => h.run pins s σ H Q I (i _ _ _ w)⟩
theorem PT.imp {X : Cx} {e : Expr} {t t' : TT} (h : PT X e t) (i : ∀ σ H Q, t' σ H Q → t σ H Q) : PT X e t' := ⟨fun pins s σ H Q I w => h.run pins s σ H Q I (i _ _ _ w)⟩
theorem PW.imp {X : Cx} {e : Expr} {t t' : TT} (h : PW X e t) (i : ∀ σ H Q, t' σ H Q → t σ H Q) : PW X e t' := ⟨fun wh pins s σ H Q I w => h.run wh pins s σ H Q I (i _ _ _ w)⟩
theorem PA.imp {X : Cx} {e : List Expr} {t t' : TA} (h : PA X e t) (i : ∀ σ H Q, t' σ H Q → t σ H Q) : PA X e t' := ⟨fun pos pins s σ H Q I w => h.run pos pins s σ H Q I (i _ _ _ w)⟩
theorem PS.imp {X : Cx} {e : Stmt} {t t' : TS} (h : PS X e t) (i : ∀ D σ H, t' D σ H → t D σ H) : PS X e t' := ⟨fun pins s σ H D I w => h.run pins s σ H D I (i _ _ _ w)⟩
theorem PSs.imp {X : Cx} {e : List Stmt} {t t' : TS} (h : PSs X e t) (i : ∀ D σ H, t' D σ H → t D σ H) : PSs X e t' := ⟨fun pins s σ H D I w => h.run pins s σ H D I (i _ _ _ w)⟩

/-! ### names, constants -/
def uGet (σ : Ev) (i : Nat) (k : U → Prop) : Prop := match σ[i]? with
  | some (some u) => k u
  | _ => False
def uVar (i : Nat) : UE := fun σ S P => uGet σ i fun u => P u S
def uC (u : U) : UE := fun _ S P => P u S
section
variable {X : Cx} {pos : Pos}
theorem w_var {i : Nat} {x : Str} (h : PE X (.Name x pos) (tVar i)) : PE X (.Name x pos) (tW X.K (uVar i)) := PE.imp h fun σ H Q w => by
  obtain ⟨σu, S, P, r, so, h, q⟩ := w
  unfold uVar uGet at h
  split at h
  · rename_i u e
    obtain ⟨v, h1, h2⟩ := r.get i u e
    exact ⟨v, h1, q u S v H h h2 so (Ext.refl S H)⟩
  · exact h.elim
theorem w_c {e : Expr} {u : U} {v : V} (h : PE X e (tC v)) (r : ∀ H, RU X.K H u v) : PE X e (tW X.K (uC u)) := PE.imp h fun σ H Q w => by
  obtain ⟨σu, S, P, _, so, h, q⟩ := w
  exact q u S v H h (r H) so (Ext.refl S H)
theorem w_int {i j} : PE X (.Constant (.int i) j pos) (tW X.K (uC (.int i))) := w_c pe_int fun _ => rfl
theorem w_bl {b j} : PE X (.Constant (.bool b) j pos) (tW X.K (uC (.bl b))) := w_c pe_bl fun _ => rfl
theorem w_non {j} : PE X (.Constant .none j pos) (tW X.K (uC .non)) := w_c pe_non fun _ => rfl
theorem w_str {x j} : PE X (.Constant (.str x) j pos) (tW X.K (uC (.str x))) := w_c pe_str fun _ => rfl

end
end Y

set_option Elab.async false
set_option linter.all false
set_option maxRecDepth 100000
set_option maxHeartbeats 2000000
namespace Y
open PySem L2

section
variable {K : PySem.W.Frag} {S S1 : Sto} {H H1 : Hp}
theorem Post.ext {P : UK} {Q : VK} (q : Post K S H P Q) (e : Ext S H S1 H1) : Post K S1 H1 P Q := fun u S' v H' p r so e' => q u S' v H' p r so (e.trans e')
theorem PostT.ext {P : Bool → Sto → Prop} {Q : Bool → Hp → Prop} (q : PostT K S H P Q) (e : Ext S H S1 H1) : PostT K S1 H1 P Q := fun u S' H' p so e' => q u S' H' p so (e.trans e')
theorem PostA.ext {P : List U → Sto → Prop} {Q : List V → Hp → Prop} (q : PostA K S H P Q) (e : Ext S H S1 H1) : PostA K S1 H1 P Q := fun u S' v H' p r so e' => q u S' v H' p r so (e.trans e')
theorem PostL.ext {P : List U → Sto → Prop} {Q : VK} (q : PostL K S H P Q) (e : Ext S H S1 H1) : PostL K S1 H1 P Q := fun u S' p v H' pp sq r so e' => q u S' p v H' pp sq r so (e.trans e')
theorem PostF.ext {P : List U → Sto → Prop} {Q : VK} (q : PostF K S H P Q) (e : Ext S H S1 H1) : PostF K S1 H1 P Q := fun u S' p v H' pp n nw hp r so e' => q u S' p v H' pp (e.live p n) nw hp r so (e.trans e')
/-- a new object of the heap that the store does not know -/
theorem Ext.new {p : Addr} {o : HO} (h : H p = none) (n : ¬ Wr S p) : Ext S H S (upd H p o) := by
  refine ⟨fun a u e _ => ?_, fun a w => .inl w, fun a e => ?_⟩
  · rw [upd_ne (ne_of_none e h)]; exact e
  · by_cases q : a = p
    · rw [q]; exact h
    · rwa [upd_ne q] at e
theorem SO.free (so : SO K H S) {p : Addr} (h : H p = none) : ¬ Wr S p := by
  rintro ⟨o, e⟩
  have r := so p o e
  cases o with
  | lst us => obtain ⟨vs, e2, _⟩ := r; rw [h] at e2; cases e2
  | dct us => obtain ⟨vs, e2, _⟩ := r; rw [h] at e2; cases e2
theorem SO.ext1 (so : SO K H S) (e : Ext S H S H1) (k : ∀ a, Wr S a → H1 a = H a) : SO K H1 S := fun a o h => by
  have r := so a o h
  cases o with
  | lst us =>
    obtain ⟨vs, e2, r2⟩ := r
    exact ⟨vs, (k a ⟨_, h⟩).trans e2, e.rus so r2⟩
  | dct us =>
    obtain ⟨vs, e2, r2⟩ := r
    exact ⟨vs, (k a ⟨_, h⟩).trans e2, e.rks so r2⟩
theorem SO.new (so : SO K H S) {p : Addr} {o : HO} (h : H p = none) : SO K (upd H p o) S :=
  so.ext1 (Ext.new h (so.free h)) fun a w => upd_ne fun z => by subst z; exact so.free h w
/-- a new object that the store is to know -/
theorem Ext.put {p : Addr} {o : HO} {ob : Ob} (h : H p = none) (n : ¬ Wr S p) : Ext S H (sput S p ob) (upd H p o) := by
  refine ⟨(Ext.new h n).keep, fun a w => ?_, (Ext.new h n).live⟩
  by_cases q : a = p
  · rw [q]; exact .inr h
  · obtain ⟨o', e⟩ := w
    rw [sput_ne q] at e
    exact .inl ⟨o', e⟩
theorem SO.put (so : SO K H S) {p : Addr} {o : HO} {ob : Ob} (h : H p = none) (r : RO K (upd H p o) p ob) : SO K (upd H p o) (sput S p ob) := fun a ob' e => by
  by_cases q : a = p
  · subst q
    rw [sput_same] at e
    cases e
    exact r
  · rw [sput_ne q] at e
    exact so.new h a ob' e
/-- a known object is written -/
theorem Ext.wrt {p : Addr} {o : HO} {ob : Ob} (w : Wr S p) (hn : H p ≠ none) : Ext S H (sput S p ob) (upd H p o) := by
  refine ⟨fun a u e n => ?_, fun a w' => ?_, fun a e => ?_⟩
  · rw [upd_ne fun z => by subst z; exact n w]; exact e
  · by_cases q : a = p
    · rw [q]; exact .inl w
    · obtain ⟨o', e⟩ := w'
      rw [sput_ne q] at e
      exact .inl ⟨o', e⟩
  · by_cases q : a = p
    · rw [q, upd_same] at e; cases e
    · rwa [upd_ne q] at e
theorem SO.wrt (so : SO K H S) {p : Addr} {o : HO} {ob : Ob} (w : Wr S p) (hn : H p ≠ none) (r : RO K (upd H p o) p ob) : SO K (upd H p o) (sput S p ob) := fun a ob' e => by
  by_cases q : a = p
  · subst q
    rw [sput_same] at e
    cases e
    exact r
  · rw [sput_ne q] at e
    have ee : Ext S H (sput S p ob) (upd H p o) := Ext.wrt w hn
    have r' := so a ob' e
    cases ob' with
    | lst us =>
      obtain ⟨vs, e2, r2⟩ := r'
      exact ⟨vs, by rw [upd_ne q]; exact e2, ee.rus so r2⟩
    | dct us =>
      obtain ⟨vs, e2, r2⟩ := r'
      exact ⟨vs, by rw [upd_ne q]; exact e2, ee.rks so r2⟩
end

section
variable {X : Cx} {pos : Pos} {a b c e : Expr} {ua ub uc : UE} {es : List Expr}

/-! ### two operands -/
def uBin (f : U → U → Sto → UK → Prop) (a b : UE) : UE := fun σ S P => a σ S fun x S1 => b σ S1 fun y S2 => f x y S2 P
/-- an operation on values of ours is one on theirs -/
def BL (K : PySem.W.Frag) (r : R2) (f : U → U → Sto → UK → Prop) : Prop := ∀ x y v w S H P Q, RU K H x v → RU K H y w → SO K H S → f x y S P → Post K S H P Q → r v w H Q
theorem bin_imp {K : PySem.W.Frag} {r : R2} {f : U → U → Sto → UK → Prop} (l : BL K r f) {σ : St} {H : Hp} {Q : VK} (w : tW K (uBin f ua ub) σ H Q) : tOp r (tW K ua) (tW K ub) σ H Q := by
  obtain ⟨σu, S, P, re, so, h, q⟩ := w
  refine ⟨σu, S, _, re, so, h, fun x S1 v H1 h1 rx so1 e1 => ?_⟩
  refine ⟨σu, S1, _, re.ext so e1, so1, h1, fun y S2 w' H2 h2 ry so2 e2 => ?_⟩
  exact l x y v w' S2 H2 P Q (e2.ru so1 rx) ry so2 h2 (q.ext (e1.trans e2))
theorem w_bin {op : Operator} {r : R2} {f : U → U → Sto → UK → Prop} (o : OpR X (binaryOp op) r) (l : BL X.K r f) (ha : PE X a (tW X.K ua)) (hb : PE X b (tW X.K ub)) : PE X (.BinOp a op b pos) (tW X.K (uBin f ua ub)) :=
  PE.imp (pe_op o ha hb) fun _ _ _ w => bin_imp l w
theorem w_cmp {op : CmpOp} {r : R2} {f : U → U → Sto → UK → Prop} (o : OpR X (compareOp op) r) (l : BL X.K r f) (ha : PE X a (tW X.K ua)) (hb : PE X b (tW X.K ub)) (hm : behindInMarks op b = false) : PE X (.Compare a [op] [b] pos) (tW X.K (uBin f ua ub)) :=
  PE.imp (pe_cmpR o ha hb hm) fun _ _ _ w => bin_imp l w
/-- a bool as a test -/
def uTest (a : UE) : UT := fun σ S P => a σ S fun u S1 => ∃ k, u = .bl k ∧ P k S1
theorem test_imp {K : PySem.W.Frag} {te : TE} (h : ∀ σ H Q, tW K ua σ H Q → te σ H Q) {σ : St} {H : Hp} {Q : Bool → Hp → Prop} (w : tWT K (uTest ua) σ H Q) : tTest te σ H Q := by
  obtain ⟨σu, S, P, re, so, hh, q⟩ := w
  refine h _ _ _ ⟨σu, S, _, re, so, hh, fun u S1 v H1 ⟨k, e, p⟩ r so1 e1 => ?_⟩
  subst e
  exact ⟨k, r, q k S1 H1 p so1 e1⟩
theorem w_cmpT {op : CmpOp} {r : R2} {f : U → U → Sto → UK → Prop} (o : OpR X (compareOp op) r) (l : BL X.K r f) (ha : PE X a (tW X.K ua)) (hb : PE X b (tW X.K ub)) (hm : behindInMarks op b = false) : PT X (.Compare a [op] [b] pos) (tWT X.K (uTest (uBin f ua ub))) :=
  PT.imp (pt_cmpR o ha hb hm) fun _ _ _ w => test_imp (fun _ _ _ w => bin_imp l w) w
/-- a op b op c -/
def uChain (f g : U → U → Sto → UK → Prop) (a b c : UE) : UE := fun σ S P => a σ S fun x S1 => b σ S1 fun y S2 => f x y S2 fun z S3 => ∃ k, z = .bl k ∧ (if k = true then c σ S3 fun w S4 => g y w S4 P else P (.bl false) S3)
theorem chain_imp {K : PySem.W.Frag} {r r' : R2} {f g : U → U → Sto → UK → Prop} (l : BL K r f) (l' : BL K r' g) {σ : St} {H : Hp} {Q : VK} (w : tW K (uChain f g ua ub uc) σ H Q) : tChain r r' (tW K ua) (tW K ub) (tW K uc) σ H Q := by
  obtain ⟨σu, S, P, re, so, h, q⟩ := w
  refine ⟨σu, S, _, re, so, h, fun x S1 v H1 h1 rx so1 e1 => ?_⟩
  refine ⟨σu, S1, _, re.ext so e1, so1, h1, fun y S2 w' H2 h2 ry so2 e2 => ?_⟩
  refine l x y v w' S2 H2 _ _ (e2.ru so1 rx) ry so2 h2 fun z S3 v3 H3 ⟨k, ez, hz⟩ rz so3 e3 => ?_
  subst ez
  refine ⟨k, rz, ?_⟩
  cases k with
  | true =>
    simp only [if_true] at hz ⊢
    refine ⟨σu, S3, _, ((re.ext so e1).ext so1 e2).ext so2 e3, so3, hz, fun t S4 v4 H4 h4 rt so4 e4 => ?_⟩
    exact l' y t w' v4 S4 H4 P Q (e4.ru so3 (e3.ru so2 ry)) rt so4 h4 (q.ext (((e1.trans e2).trans e3).trans e4))
  | false =>
    simp only [Bool.false_eq_true, if_false] at hz ⊢
    exact q _ S3 _ H3 hz rfl so3 ((e1.trans e2).trans e3)
theorem w_chain {op op' : CmpOp} {r r' : R2} {f g : U → U → Sto → UK → Prop} (ho : OpR X (compareOp op) r) (ho' : OpR X (compareOp op') r') (l : BL X.K r f) (l' : BL X.K r' g) (ha : PE X a (tW X.K ua)) (hb : PE X b (tW X.K ub)) (hc : PE X c (tW X.K uc))
    (hm : lastMarks [op, op'] [b, c] = false := by with_unfolding_all rfl) : PE X (.Compare a [op, op'] [b, c] pos) (tW X.K (uChain f g ua ub uc)) :=
  PE.imp (pe_chain ho ho' ha hb hc hm) fun _ _ _ w => chain_imp l l' w
theorem w_chainT {op op' : CmpOp} {r r' : R2} {f g : U → U → Sto → UK → Prop} (ho : OpR X (compareOp op) r) (ho' : OpR X (compareOp op') r') (l : BL X.K r f) (l' : BL X.K r' g) (ha : PE X a (tW X.K ua)) (hb : PE X b (tW X.K ub)) (hc : PE X c (tW X.K uc))
    (hm : lastMarks [op, op'] [b, c] = false := by with_unfolding_all rfl) : PT X (.Compare a [op, op'] [b, c] pos) (tWT X.K (uTest (uChain f g ua ub uc))) :=
  PT.imp (pt_chain ho ho' ha hb hc hm) fun _ _ _ w => test_imp (fun _ _ _ w => chain_imp l l' w) w

/-! ### operations -/
def fI (C : Int → Int → Prop) (g : Int → Int → U) : U → U → Sto → UK → Prop := fun x y S P => ∃ i j, x = .int i ∧ y = .int j ∧ C i j ∧ P (g i j) S
theorem BL.ints {K : PySem.W.Frag} {C : Int → Int → Prop} {g : Int → Int → V} {g' : Int → Int → U} (h : ∀ i j H, RU K H (g' i j) (g i j)) : BL K (rI C g) (fI C g') := fun x y v w S H P Q rx ry so hf q => by
  obtain ⟨i, j, rfl, rfl, hc, p⟩ := hf
  exact ⟨i, j, rx, ry, hc, q _ S _ H p (h i j H) so (Ext.refl S H)⟩
theorem BL.ints0 {K : PySem.W.Frag} {g : Int → Int → V} {g' : Int → Int → U} (h : ∀ i j H, RU K H (g' i j) (g i j)) : BL K (rI0 g) (fI (fun _ _ => True) g') := fun x y v w S H P Q rx ry so hf q => by
  obtain ⟨i, j, rfl, rfl, hc, p⟩ := hf
  exact ⟨i, j, rx, ry, q _ S _ H p (h i j H) so (Ext.refl S H)⟩
theorem BL.or {K : PySem.W.Frag} {r r' : R2} {f f' : U → U → Sto → UK → Prop} (h : BL K r f) (h' : BL K r' f') : BL K (fun x y H Q => r x y H Q ∨ r' x y H Q) (fun x y S P => f x y S P ∨ f' x y S P) := fun x y v w S H P Q rx ry so hf q => by
  rcases hf with hf | hf
  · exact .inl (h x y v w S H P Q rx ry so hf q)
  · exact .inr (h' x y v w S H P Q rx ry so hf q)
theorem BL.weak {K : PySem.W.Frag} {r : R2} {f f' : U → U → Sto → UK → Prop} (h : BL K r f) (i : ∀ x y S P, f' x y S P → f x y S P) : BL K r f' := fun x y v w S H P Q rx ry so hf q => h x y v w S H P Q rx ry so (i _ _ _ _ hf) q

/-- + of ints and of texts -/
def fAdd : U → U → Sto → UK → Prop := fun x y S P => match x, y with
  | .int i, .int j => P (.int (i + j)) S
  | .str i, .str j => i.length + j.length ≤ sizeLine ∧ P (.str (i ++ j)) S
  | _, _ => False
theorem bl_add {K : PySem.W.Frag} : BL K (fun x y H Q => (rI0 fun i j => .int (i + j)) x y H Q ∨ (fun x y H Q => ∃ i j, x = .str i ∧ y = .str j ∧ i.length + j.length ≤ sizeLine ∧ Q (.str (i ++ j)) H) x y H Q) fAdd := fun x y v w S H P Q rx ry so hf q => by
  unfold fAdd at hf
  split at hf
  · exact .inl ⟨_, _, rx, ry, q _ S _ H hf rfl so (Ext.refl S H)⟩
  · exact .inr ⟨_, _, rx, ry, hf.1, q _ S _ H hf.2 rfl so (Ext.refl S H)⟩
  · exact hf.elim
theorem w_add (ha : PE X a (tW X.K ua)) (hb : PE X b (tW X.K ub)) : PE X (.BinOp a .Add b pos) (tW X.K (uBin fAdd ua ub)) := w_bin (OpR.or op_add op_add_str) bl_add ha hb
def fSub := fI (fun _ _ => True) fun i j => U.int (i - j)
theorem w_sub (ha : PE X a (tW X.K ua)) (hb : PE X b (tW X.K ub)) : PE X (.BinOp a .Sub b pos) (tW X.K (uBin fSub ua ub)) := w_bin op_sub (BL.ints0 fun _ _ _ => rfl) ha hb
def fMul := fI CMul fun i j => U.int (i * j)
theorem w_mul (ha : PE X a (tW X.K ua)) (hb : PE X b (tW X.K ub)) : PE X (.BinOp a .Mult b pos) (tW X.K (uBin fMul ua ub)) := w_bin op_mul (BL.ints fun _ _ _ => rfl) ha hb
def fMod := fI (fun _ j => 0 < j) fun i j => U.int (i % j)
theorem w_mod (ha : PE X a (tW X.K ua)) (hb : PE X b (tW X.K ub)) : PE X (.BinOp a .Mod b pos) (tW X.K (uBin fMod ua ub)) := w_bin op_mod (BL.ints fun _ _ _ => rfl) ha hb
def fPow := fI CPow fun i j => U.int (i ^ j.toNat)
theorem w_pow (ha : PE X a (tW X.K ua)) (hb : PE X b (tW X.K ub)) : PE X (.BinOp a .Pow b pos) (tW X.K (uBin fPow ua ub)) := w_bin op_pow (BL.ints fun _ _ _ => rfl) ha hb
def fLt := fI (fun _ _ => True) fun i j => U.bl (decide (i < j))
def fLe := fI (fun _ _ => True) fun i j => U.bl (decide (i ≤ j))
def fGt := fI (fun _ _ => True) fun i j => U.bl (decide (j < i))
def fGe := fI (fun _ _ => True) fun i j => U.bl (decide (j ≤ i))
theorem bl_lt {K : PySem.W.Frag} : BL K (rI0 fun i j => .bl (decide (i < j))) fLt := BL.ints0 fun _ _ _ => rfl
theorem bl_le {K : PySem.W.Frag} : BL K (rI0 fun i j => .bl (decide (i ≤ j))) fLe := BL.ints0 fun _ _ _ => rfl
theorem bl_gt {K : PySem.W.Frag} : BL K (rI0 fun i j => .bl (decide (j < i))) fGt := BL.ints0 fun _ _ _ => rfl
theorem bl_ge {K : PySem.W.Frag} : BL K (rI0 fun i j => .bl (decide (j ≤ i))) fGe := BL.ints0 fun _ _ _ => rfl
/-- == of scalars -/
def U.sc : U → U → Option Bool
  | .non, .non => some true | .non, .int _ => some false | .int _, .non => some false | .non, .bl _ => some false | .bl _, .non => some false | .non, .str _ => some false | .str _, .non => some false
  | .int i, .int j => some (decide (i = j)) | .bl i, .bl j => some (decide (i = j)) | .str i, .str j => some (decide (i = j))
  | .int _, .str _ => some false | .str _, .int _ => some false | .bl _, .str _ => some false | .str _, .bl _ => some false
  | _, _ => none
def fEq : U → U → Sto → UK → Prop := fun x y S P => ∃ k, U.sc x y = some k ∧ P (.bl k) S
def fNe : U → U → Sto → UK → Prop := fun x y S P => ∃ k, U.sc x y = some k ∧ P (.bl (!k)) S
theorem sc_ok {K : PySem.W.Frag} {H : Hp} {x y : U} {v w : V} {k : Bool} (rx : RU K H x v) (ry : RU K H y w) (h : U.sc x y = some k) : scal v w = true ∧ decide (v = w) = k := by
  cases x <;> cases y <;> simp [U.sc] at h <;> (have rx' := rx; have ry' := ry; simp only [RU] at rx' ry'; subst rx' ry' h; refine ⟨rfl, ?_⟩; simp)
theorem bl_eq {K : PySem.W.Frag} : BL K rEq fEq := fun x y v w S H P Q rx ry so hf q => by
  obtain ⟨k, e, p⟩ := hf
  obtain ⟨h1, h2⟩ := sc_ok rx ry e
  refine ⟨h1, ?_⟩
  rw [h2]
  exact q _ S _ H p rfl so (Ext.refl S H)
theorem bl_ne {K : PySem.W.Frag} : BL K rNe fNe := fun x y v w S H P Q rx ry so hf q => by
  obtain ⟨k, e, p⟩ := hf
  obtain ⟨h1, h2⟩ := sc_ok rx ry e
  refine ⟨h1, ?_⟩
  rw [h2]
  exact q _ S _ H p rfl so (Ext.refl S H)

/-! ### tests -/
def uAnd (t u : UT) : UT := fun σ S P => t σ S fun k S1 => if k = true then u σ S1 P else P false S1
def uOr (t u : UT) : UT := fun σ S P => t σ S fun k S1 => if k = true then P true S1 else u σ S1 P
def uNot (t : UT) : UT := fun σ S P => t σ S fun k S1 => P (!k) S1
theorem w_andT {ut uu : UT} {rest : List Expr} (ha : PT X a (tWT X.K ut)) (hb : PW X (.BoolOp .And (b :: rest) pos) (tWT X.K uu)) : PW X (.BoolOp .And (a :: b :: rest) pos) (tWT X.K (uAnd ut uu)) :=
  PW.imp (pw_and ha hb) fun σ H Q w => by
    obtain ⟨σu, S, P, re, so, h, q⟩ := w
    refine ⟨σu, S, _, re, so, h, fun k S1 H1 h1 so1 e1 => ?_⟩
    cases k with
    | true =>
      simp only [if_true] at h1 ⊢
      exact ⟨σu, S1, P, re.ext so e1, so1, h1, q.ext e1⟩
    | false =>
      simp only [Bool.false_eq_true, if_false] at h1 ⊢
      exact q _ S1 H1 h1 so1 e1
theorem w_orT {ut uu : UT} {rest : List Expr} (ha : PT X a (tWT X.K ut)) (hb : PW X (.BoolOp .Or (b :: rest) pos) (tWT X.K uu)) : PW X (.BoolOp .Or (a :: b :: rest) pos) (tWT X.K (uOr ut uu)) :=
  PW.imp (pw_or ha hb) fun σ H Q w => by
    obtain ⟨σu, S, P, re, so, h, q⟩ := w
    refine ⟨σu, S, _, re, so, h, fun k S1 H1 h1 so1 e1 => ?_⟩
    cases k with
    | true =>
      simp only [if_true] at h1 ⊢
      exact q _ S1 H1 h1 so1 e1
    | false =>
      simp only [Bool.false_eq_true, if_false] at h1 ⊢
      exact ⟨σu, S1, P, re.ext so e1, so1, h1, q.ext e1⟩
theorem w_and1 {ut : UT} (ha : PT X a (tWT X.K ut)) : PW X (.BoolOp .And [a] pos) (tWT X.K ut) := pw_and1 ha
theorem w_or1 {ut : UT} (ha : PT X a (tWT X.K ut)) : PW X (.BoolOp .Or [a] pos) (tWT X.K ut) := pw_or1 ha
theorem w_notT {ut : UT} (ha : PT X a (tWT X.K ut)) : PT X (.UnaryOp .Not a pos) (tWT X.K (uNot ut)) := PT.imp (pt_not ha) fun σ H Q w => by
  obtain ⟨σu, S, P, re, so, h, q⟩ := w
  exact ⟨σu, S, _, re, so, h, fun k S1 H1 h1 so1 e1 => q _ S1 H1 h1 so1 e1⟩
/-- .. as values -/
def uAndV (a b : UE) : UE := fun σ S P => a σ S fun x S1 => ∃ k, x = .bl k ∧ if k = true then b σ S1 P else P (.bl false) S1
def uOrV (a b : UE) : UE := fun σ S P => a σ S fun x S1 => ∃ k, x = .bl k ∧ if k = true then P (.bl true) S1 else b σ S1 P
def uNotV (a : UE) : UE := fun σ S P => a σ S fun x S1 => ∃ k, x = .bl k ∧ P (.bl (!k)) S1
theorem w_andV {rest : List Expr} (ha : PE X a (tW X.K ua)) (hb : PE X (.BoolOp .And (b :: rest) pos) (tW X.K ub)) : PE X (.BoolOp .And (a :: b :: rest) pos) (tW X.K (uAndV ua ub)) :=
  PE.imp (pe_and ha hb) fun σ H Q w => by
    obtain ⟨σu, S, P, re, so, h, q⟩ := w
    refine ⟨σu, S, _, re, so, h, fun x S1 v H1 ⟨k, ex, h1⟩ rx so1 e1 => ?_⟩
    subst ex
    refine ⟨k, rx, ?_⟩
    cases k with
    | true =>
      simp only [if_true] at h1 ⊢
      exact ⟨σu, S1, P, re.ext so e1, so1, h1, q.ext e1⟩
    | false =>
      simp only [Bool.false_eq_true, if_false] at h1 ⊢
      exact q _ S1 _ H1 h1 rfl so1 e1
theorem w_orV {rest : List Expr} (ha : PE X a (tW X.K ua)) (hb : PE X (.BoolOp .Or (b :: rest) pos) (tW X.K ub)) : PE X (.BoolOp .Or (a :: b :: rest) pos) (tW X.K (uOrV ua ub)) :=
  PE.imp (pe_or ha hb) fun σ H Q w => by
    obtain ⟨σu, S, P, re, so, h, q⟩ := w
    refine ⟨σu, S, _, re, so, h, fun x S1 v H1 ⟨k, ex, h1⟩ rx so1 e1 => ?_⟩
    subst ex
    refine ⟨k, rx, ?_⟩
    cases k with
    | true =>
      simp only [if_true] at h1 ⊢
      exact q _ S1 _ H1 h1 rfl so1 e1
    | false =>
      simp only [Bool.false_eq_true, if_false] at h1 ⊢
      exact ⟨σu, S1, P, re.ext so e1, so1, h1, q.ext e1⟩
theorem w_oneV {op} {ut : UE} (h : PE X a (tW X.K ut)) : PE X (.BoolOp op [a] pos) (tW X.K ut) := pe_one h
theorem w_notV (ha : PE X a (tW X.K ua)) : PE X (.UnaryOp .Not a pos) (tW X.K (uNotV ua)) := PE.imp (pe_not ha) fun σ H Q w => by
  obtain ⟨σu, S, P, re, so, h, q⟩ := w
  exact ⟨σu, S, _, re, so, h, fun x S1 v H1 ⟨k, ex, h1⟩ rx so1 e1 => by subst ex; exact ⟨k, rx, q _ S1 _ H1 h1 rfl so1 e1⟩⟩
def uIf (t : UT) (a b : UE) : UE := fun σ S P => t σ S fun k S1 => if k = true then a σ S1 P else b σ S1 P
theorem w_ifE {ut : UT} (hc : PT X c (tWT X.K ut)) (ha : PE X a (tW X.K ua)) (hb : PE X b (tW X.K ub)) : PE X (.IfExp c a b pos) (tW X.K (uIf ut ua ub)) := PE.imp (pe_ifExp hc ha hb) fun σ H Q w => by
  obtain ⟨σu, S, P, re, so, h, q⟩ := w
  refine ⟨σu, S, _, re, so, h, fun k S1 H1 h1 so1 e1 => ?_⟩
  cases k with
  | true =>
    simp only [if_true] at h1 ⊢
    exact ⟨σu, S1, P, re.ext so e1, so1, h1, q.ext e1⟩
  | false =>
    simp only [Bool.false_eq_true, if_false] at h1 ⊢
    exact ⟨σu, S1, P, re.ext so e1, so1, h1, q.ext e1⟩
/-- a value's truth -/
def U.tru (S : Sto) : U → Option Bool
  | .non => some false
  | .bl b => some b
  | .int i => some (i != 0)
  | .tup us => some (!us.isEmpty)
  | .rol us => some (!us.isEmpty)
  | .loc a => match S a with
    | some (.lst us) => some (!us.isEmpty)
    | some (.dct us) => some (!us.isEmpty)
    | none => none
  | _ => none
def uTru (a : UE) : UT := fun σ S P => a σ S fun x S1 => ∃ k, U.tru S1 x = some k ∧ P k S1
theorem isEmpty_rus {K : PySem.W.Frag} {H : Hp} {us : List U} {vs : List V} (r : RUs K H us vs) : us.isEmpty = vs.isEmpty := by
  cases us with
  | nil => rw [RUs.nil_eq r]; rfl
  | cons u us => obtain ⟨w, ws, e, _⟩ := r; rw [e]; rfl
theorem isEmpty_rks {K : PySem.W.Frag} {H : Hp} {us : List (Key × U)} {vs : List (Key × V)} (r : RKs K H us vs) : us.isEmpty = vs.isEmpty := by
  cases us with
  | nil => rw [show vs = [] from r]; rfl
  | cons u us => obtain ⟨w, ws, e, _⟩ := r; rw [e]; rfl
theorem tru_okU {K : PySem.W.Frag} {H : Hp} {S : Sto} {x : U} {v : V} {k : Bool} (so : SO K H S) (rx : RU K H x v) (h : U.tru S x = some k) : TruV K v H k := by
  cases x with
  | non => rw [show v = .non from rx]; simp [U.tru] at h; exact h
  | bl b => rw [show v = .bl b from rx]; simp [U.tru] at h; exact h.symm
  | int i => rw [show v = .int i from rx]; simp [U.tru] at h; show k = (i != 0); rw [← h]
  | str x => simp [U.tru] at h
  | ty n => simp [U.tru] at h
  | exc C fs => simp [U.tru] at h
  | tup us =>
    obtain ⟨p, vs, e, sq, r⟩ := rx
    rw [e]
    simp only [U.tru, Option.some.injEq] at h
    exact .inr (.inl ⟨vs, sq, by rw [← h, isEmpty_rus r]⟩)
  | rol us =>
    obtain ⟨p, vs, e, sq, r⟩ := rx
    rw [e]
    simp only [U.tru, Option.some.injEq] at h
    exact .inl ⟨vs, sq.sq, by rw [← h, isEmpty_rus r]⟩
  | loc a =>
    rw [show v = .ref a from rx]
    simp only [U.tru] at h
    split at h
    · rename_i us e
      obtain ⟨vs, e2, r⟩ := so a _ e
      simp only [Option.some.injEq] at h
      exact .inl ⟨vs, .inl (.inl e2), by rw [← h, isEmpty_rus r]⟩
    · rename_i us e
      obtain ⟨vs, e2, r⟩ := so a _ e
      simp only [Option.some.injEq] at h
      exact .inr (.inr ⟨vs, e2, by rw [← h, isEmpty_rks r]⟩)
    · cases h
theorem w_tru (ha : PE X a (tW X.K ua)) (he : ∀ whole, isTrue a X.env whole = (do let v ← whole; standAt a.pos; holding [v] (truthy v)) := by intro _; rfl) : PT X a (tWT X.K (uTru ua)) := PT.imp (pt_truth ha he) fun σ H Q w => by
  obtain ⟨σu, S, P, re, so, h, q⟩ := w
  exact ⟨σu, S, _, re, so, h, fun x S1 v H1 ⟨k, ek, h1⟩ rx so1 e1 => ⟨k, tru_okU so1 rx ek, q _ S1 H1 h1 so1 e1⟩⟩

/-! ### arguments, displays -/
def uNil : UL := fun _ S P => P [] S
def uCons (a : UE) (r : UL) : UL := fun σ S P => a σ S fun x S1 => r σ S1 fun xs S2 => P (x :: xs) S2
theorem w_nil : PA X [] (tWA X.K uNil) := PA.imp pa_nil fun σ H Q w => by
  obtain ⟨σu, S, P, re, so, h, q⟩ := w
  exact q [] S [] H h rfl so (Ext.refl S H)
theorem w_cons {ur : UL} (ha : PE X e (tW X.K ua)) (hr : PA X es (tWA X.K ur)) (hs : starEach (e :: es) X.env = (false, eval e X.env) :: starEach es X.env := by rfl) : PA X (e :: es) (tWA X.K (uCons ua ur)) := PA.imp (pa_cons ha hr hs) fun σ H Q w => by
  obtain ⟨σu, S, P, re, so, h, q⟩ := w
  refine ⟨σu, S, _, re, so, h, fun x S1 v H1 h1 rx so1 e1 => ?_⟩
  refine ⟨σu, S1, _, re.ext so e1, so1, h1, fun xs S2 vs H2 h2 rxs so2 e2 => ?_⟩
  exact q _ S2 _ H2 h2 ⟨v, vs, rfl, e2.ru so1 rx, rxs⟩ so2 (e1.trans e2)
def uTup (a : UL) : UE := fun σ S P => a σ S fun xs S1 => xs.length ≤ sizeLine ∧ P (.tup xs) S1
theorem w_tup {ul : UL} {k} (h : PA X es (tWA X.K ul)) : PE X (.Tuple es k pos) (tW X.K (uTup ul)) := PE.imp (pe_tup h) fun σ H Q w => by
  obtain ⟨σu, S, P, re, so, h, q⟩ := w
  refine ⟨σu, S, _, re, so, h, fun xs S1 vs H1 ⟨hz, h1⟩ rx so1 e1 => ⟨by rw [← rx.length]; exact hz, fun p hp => ?_⟩⟩
  have e2 : Ext S1 H1 S1 (upd H1 p (.tup vs)) := Ext.new hp (so1.free hp)
  exact q _ S1 _ _ h1 ⟨p, vs, rfl, .inl (.inl upd_same), e2.rus so1 rx⟩ (so1.new hp) (e1.trans e2)
/-- a written list, new -/
def uLst (a : UL) : UL := fun σ S P => a σ S fun xs S1 => xs.length ≤ sizeLine ∧ P xs S1
theorem w_lst {ul : UL} (h : PA X es (tWA X.K ul)) : PE X (.List es pos) (tWF X.K (uLst ul)) := PE.imp (pe_lst h) fun σ H Q w => by
  obtain ⟨σu, S, P, re, so, h, q⟩ := w
  refine ⟨σu, S, _, re, so, h, fun xs S1 vs H1 ⟨hz, h1⟩ rx so1 e1 => ⟨by rw [← rx.length]; exact hz, fun p hp => ?_⟩⟩
  have e2 : Ext S1 H1 S1 (upd H1 p (.lst vs)) := Ext.new hp (so1.free hp)
  exact q _ S1 p vs _ h1 (e1.live p hp) (so1.free hp) upd_same (e2.rus so1 rx) (so1.new hp) (e1.trans e2)
/-- a new list as a value: the store knows it -/
def uNew (l : UL) : UE := fun σ S P => l σ S fun xs S1 => ∀ p, S1 p = none → P (.loc p) (sput S1 p (.lst xs))
theorem w_new {l : UL} (h : PE X e (tWF X.K l)) : PE X e (tW X.K (uNew l)) := PE.imp h fun σ H Q w => by
  obtain ⟨σu, S, P, re, so, h, q⟩ := w
  refine ⟨σu, S, _, re, so, h, fun xs S1 p vs H1 h1 hn nw hp rx so1 e1 => ?_⟩
  have hS : S1 p = none := by
    cases e : S1 p with
    | none => rfl
    | some o => exact absurd ⟨_, e⟩ nw
  have so2 : SO X.K H1 (sput S1 p (.lst xs)) := fun a o e => by
    by_cases z : a = p
    · subst z
      rw [sput_same] at e
      cases e
      exact ⟨vs, hp, rx⟩
    · rw [sput_ne z] at e
      exact so1 a o e
  refine q _ _ _ H1 (h1 p hS) rfl so2 ⟨e1.keep, fun a w => ?_, e1.live⟩
  by_cases z : a = p
  · rw [z]; exact .inr hn
  · obtain ⟨o, e⟩ := w
    rw [sput_ne z] at e
    exact e1.dom a ⟨o, e⟩
end
end Y

set_option Elab.async false
set_option linter.all false
set_option maxRecDepth 100000
set_option maxHeartbeats 2000000
namespace Y
open PySem L2

section
variable {X : Cx} {pos p2 : Pos} {a b c e : Expr} {ua ub uc : UE} {es : List Expr}

/-! ### reading a sequence -/
/-- a list or a tuple as its items -/
def U.seq (S : Sto) : U → Option (List U)
  | .tup us => some us
  | .rol us => some us
  | .loc a => match S a with
    | some (.lst us) => some us
    | _ => none
  | _ => none
theorem seq_ok {K : PySem.W.Frag} {H : Hp} {S : Sto} {x : U} {v : V} {us : List U} (so : SO K H S) (rx : RU K H x v) (h : U.seq S x = some us) : ∃ p vs, v = .ref p ∧ (SqL K H p vs ∨ SqT K H p vs) ∧ RUs K H us vs := by
  cases x with
  | tup ws =>
    obtain ⟨p, vs, e, sq, r⟩ := rx
    cases Option.some.inj h
    exact ⟨p, vs, e, .inr sq, r⟩
  | rol ws =>
    obtain ⟨p, vs, e, sq, r⟩ := rx
    cases Option.some.inj h
    exact ⟨p, vs, e, .inl sq.sq, r⟩
  | loc a =>
    simp only [U.seq] at h
    split at h
    · rename_i ws e
      cases Option.some.inj h
      obtain ⟨vs, e2, r⟩ := so a _ e
      exact ⟨a, vs, rx, .inl (.inl (.inl e2)), r⟩
    · cases h
  | _ => cases h

/-! ### subscripts -/
theorem atI_len {α β : Type} {xs : List α} {ys : List β} (h : xs.length = ys.length) {i : Int} {x : α} (e : atI xs i = some x) : ∃ j, ixN ys.length i = some j ∧ xs[j]? = some x := by
  unfold atI at e
  rw [h] at e
  cases q : ixN ys.length i with
  | none => rw [q] at e; cases e
  | some j => rw [q] at e; exact ⟨j, rfl, e⟩
theorem RUs.atI {K : PySem.W.Frag} {H : Hp} {us : List U} {vs : List V} {i : Int} {u : U} (r : RUs K H us vs) (h : L2.atI us i = some u) : ∃ v, L2.atI vs i = some v ∧ RU K H u v := by
  obtain ⟨j, h1, h2⟩ := atI_len r.length h
  obtain ⟨v, h3, h4⟩ := r.get h2
  refine ⟨v, ?_, h4⟩
  unfold L2.atI
  rw [h1]
  exact h3
def fIx : U → U → Sto → UK → Prop := fun x y S P => ∃ i us u, y = .int i ∧ U.seq S x = some us ∧ atI us i = some u ∧ P u S
theorem bl_ix {K : PySem.W.Frag} : BL K (fun x y H Q => rIxL K x y H Q ∨ rIxT K x y H Q) fIx := fun x y v w S H P Q rx ry so hf q => by
  obtain ⟨i, us, u, rfl, hs, ha, p⟩ := hf
  obtain ⟨a, vs, rfl, sq, r⟩ := seq_ok so rx hs
  obtain ⟨z, h1, h2⟩ := r.atI ha
  rcases sq with sq | sq
  · exact .inl ⟨a, vs, i, z, rfl, ry, sq, h1, q u S z H p h2 so (Ext.refl S H)⟩
  · exact .inr ⟨a, vs, i, z, rfl, ry, sq, h1, q u S z H p h2 so (Ext.refl S H)⟩
theorem w_ix (ha : PE X a (tW X.K ua)) (hb : PE X b (tW X.K ub)) (hs : PlainIx b := by exact fun _ _ => rfl) : PE X (.Subscript a b pos) (tW X.K (uBin fIx ua ub)) := PE.imp (pe_ix (ix_list.or ix_tup) ha hb hs) fun _ _ _ w => bin_imp bl_ix w
/-- of a text -/
def fIxS : U → U → Sto → UK → Prop := fun x y S P => ∃ z i c, x = .str z ∧ y = .int i ∧ z.length ≤ sizeLine ∧ atI z.cps.toList i = some c ∧ P (.str ⟨#[c]⟩) S
theorem bl_ixS {K : PySem.W.Frag} : BL K rIxS fIxS := fun x y v w S H P Q rx ry so hf q => by
  obtain ⟨z, i, c, rfl, rfl, hz, ha, p⟩ := hf
  exact ⟨z, i, c, rx, ry, hz, ha, q _ S _ H p rfl so (Ext.refl S H)⟩
theorem w_ixS (ha : PE X a (tW X.K ua)) (hb : PE X b (tW X.K ub)) (hs : PlainIx b := by exact fun _ _ => rfl) : PE X (.Subscript a b pos) (tW X.K (uBin fIxS ua ub)) := PE.imp (pe_ix ix_str ha hb hs) fun _ _ _ w => bin_imp bl_ixS w
/-- of either -/
def fIxA : U → U → Sto → UK → Prop := fun x y S P => fIx x y S P ∨ fIxS x y S P
theorem w_ixA (ha : PE X a (tW X.K ua)) (hb : PE X b (tW X.K ub)) (hs : PlainIx b := by exact fun _ _ => rfl) : PE X (.Subscript a b pos) (tW X.K (uBin fIxA ua ub)) := PE.imp (pe_ix ((ix_list.or ix_tup).or ix_str) ha hb hs) fun _ _ _ w => bin_imp (BL.or bl_ix bl_ixS) w

/-! ### slices -/
abbrev UO := Ev → Sto → (Option Int → Sto → Prop) → Prop
def uNoP : UO := fun _ S P => P none S
def uPart (a : UE) : UO := fun σ S P => a σ S fun x S1 => ∃ i, x = .int i ∧ P (some i) S1
def tWO (K : PySem.W.Frag) (e : UO) : TO := fun σ H Q => ∃ σu S P, REnv K H σu σ ∧ SO K H S ∧ e σu S P ∧ ∀ o S' H', P o S' → SO K H' S' → Ext S H S' H' → Q o H'
theorem PO.imp {X : Cx} {e : Option Expr} {t t' : TO} (h : PO X e t) (i : ∀ σ H Q, t' σ H Q → t σ H Q) : PO X e t' := ⟨fun pins s σ H Q I w => h.run pins s σ H Q I (i _ _ _ w)⟩
theorem w_noP : PO X none (tWO X.K uNoP) := PO.imp po_none fun σ H Q w => by
  obtain ⟨σu, S, P, re, so, h, q⟩ := w
  exact q _ S H h so (Ext.refl S H)
theorem w_part (ha : PE X a (tW X.K ua)) : PO X (some a) (tWO X.K (uPart ua)) := PO.imp (po_some ha) fun σ H Q w => by
  obtain ⟨σu, S, P, re, so, h, q⟩ := w
  refine ⟨σu, S, _, re, so, h, fun x S1 v H1 ⟨i, ex, h1⟩ rx so1 e1 => ?_⟩
  subst ex
  exact ⟨i, rx, q _ S1 H1 h1 so1 e1⟩
def cutU (xs : List U) (lo hi : Option Int) : List U := (xs.drop (HT.sIx xs.length 0 lo)).take (HT.sIx xs.length xs.length hi - HT.sIx xs.length 0 lo)
theorem RUs.cut {K : PySem.W.Frag} {H : Hp} {us : List U} {vs : List V} (r : RUs K H us vs) (lo hi : Option Int) : RUs K H (cutU us lo hi) (cutV vs lo hi) := by
  unfold cutU cutV
  rw [r.length]
  exact RUs.take _ (RUs.drop _ r)
/-- a slice of a list: a new list -/
def U.lis (S : Sto) : U → Option (List U)
  | .rol us => some us
  | .loc a => match S a with
    | some (.lst us) => some us
    | _ => none
  | _ => none
theorem lis_ok {K : PySem.W.Frag} {H : Hp} {S : Sto} {x : U} {v : V} {us : List U} (so : SO K H S) (rx : RU K H x v) (h : U.lis S x = some us) : ∃ p vs, v = .ref p ∧ SqL K H p vs ∧ RUs K H us vs := by
  cases x with
  | rol ws =>
    obtain ⟨p, vs, e, sq, r⟩ := rx
    cases Option.some.inj h
    exact ⟨p, vs, e, sq.sq, r⟩
  | loc a =>
    simp only [U.lis] at h
    split at h
    · rename_i ws e
      cases Option.some.inj h
      obtain ⟨vs, e2, r⟩ := so a _ e
      exact ⟨a, vs, rx, .inl (.inl e2), r⟩
    · cases h
  | _ => cases h
def uSlL (a : UE) (lo hi : UO) : UL := fun σ S P => a σ S fun x S1 => lo σ S1 fun l S2 => hi σ S2 fun h S3 => ∃ us, U.lis S3 x = some us ∧ P (cutU us l h) S3
theorem w_slL {lo hi : Option Expr} {ul uh : UO} (ha : PE X a (tW X.K ua)) (hl : PO X lo (tWO X.K ul)) (hh : PO X hi (tWO X.K uh)) : PE X (.Subscript a (.Slice lo hi none p2) pos) (tWF X.K (uSlL ua ul uh)) :=
  PE.imp (pe_slice sl_list ha hl hh) fun σ H Q w => by
    obtain ⟨σu, S, P, re, so, h, q⟩ := w
    refine ⟨σu, S, _, re, so, h, fun x S1 v H1 h1 rx so1 e1 => ?_⟩
    refine ⟨σu, S1, _, re.ext so e1, so1, h1, fun l S2 H2 h2 so2 e2 => ?_⟩
    refine ⟨σu, S2, _, (re.ext so e1).ext so1 e2, so2, h2, fun r S3 H3 ⟨us, hs, h3⟩ so3 e3 => ?_⟩
    have rx3 := e3.ru so2 (e2.ru so1 rx)
    obtain ⟨p, vs, ev, sq, rr⟩ := lis_ok so3 rx3 hs
    refine ⟨p, vs, ev, sq, fun p' hp' => ?_⟩
    have e4 : Ext S3 H3 S3 (upd H3 p' (.lst (cutV vs l r))) := Ext.new hp' (so3.free hp')
    exact q _ S3 p' _ _ h3 (e1.live _ (e2.live _ (e3.live _ hp'))) (so3.free hp') upd_same (e4.rus so3 (rr.cut l r)) (so3.new hp') (((e1.trans e2).trans e3).trans e4)
/-- a slice of a text -/
def uSlS (a : UE) (lo hi : UO) : UE := fun σ S P => a σ S fun x S1 => lo σ S1 fun l S2 => hi σ S2 fun h S3 => ∃ z, x = .str z ∧ z.length ≤ sizeLine ∧ P (.str (cutS z l h)) S3
theorem w_slS {lo hi : Option Expr} {ul uh : UO} (ha : PE X a (tW X.K ua)) (hl : PO X lo (tWO X.K ul)) (hh : PO X hi (tWO X.K uh)) : PE X (.Subscript a (.Slice lo hi none p2) pos) (tW X.K (uSlS ua ul uh)) :=
  PE.imp (pe_slice sl_str ha hl hh) fun σ H Q w => by
    obtain ⟨σu, S, P, re, so, h, q⟩ := w
    refine ⟨σu, S, _, re, so, h, fun x S1 v H1 h1 rx so1 e1 => ?_⟩
    refine ⟨σu, S1, _, re.ext so e1, so1, h1, fun l S2 H2 h2 so2 e2 => ?_⟩
    refine ⟨σu, S2, _, (re.ext so e1).ext so1 e2, so2, h2, fun r S3 H3 ⟨z, hs, hz, h3⟩ so3 e3 => ?_⟩
    subst hs
    exact ⟨z, rx, hz, q _ S3 _ H3 h3 rfl so3 ((e1.trans e2).trans e3)⟩

/-! ### built-in calls -/
/-- a call on values of ours is one on theirs -/
def CL (K : PySem.W.Frag) (r : List V → Hp → VK → Prop) (f : List U → Sto → UK → Prop) : Prop := ∀ xs vs S H P Q, RUs K H xs vs → SO K H S → f xs S P → Post K S H P Q → r vs H Q
def uCall (f : List U → Sto → UK → Prop) (t : UL) : UE := fun σ S P => t σ S fun xs S1 => f xs S1 P
theorem call_imp {K : PySem.W.Frag} {r : List V → Hp → VK → Prop} {f : List U → Sto → UK → Prop} {t : UL} (l : CL K r f) {σ : St} {H : Hp} {Q : VK} (w : tW K (uCall f t) σ H Q) : tCB r (tWA K t) σ H Q := by
  obtain ⟨σu, S, P, re, so, h, q⟩ := w
  exact ⟨σu, S, _, re, so, h, fun xs S1 vs H1 h1 rx so1 e1 => l xs vs S1 H1 P Q rx so1 h1 (q.ext e1)⟩
theorem w_callB {id : String} {x : Str} {r : List V → Hp → VK → Prop} {f : List U → Sto → UK → Prop} {t : UL} {p : Pos} (hc : CallR X (.builtin id) r) (l : CL X.K r f) (hg : Gl X x) (hm : X.mg x = none) (hv : bootBuiltins x = some (.builtin id)) (ha : PA X (e :: es) (tWA X.K t)) (hn : x ≠ "__name__" := by decide) (hdb : (x == ("__debug__" : Str)) = false := by decide)
    (he : starEach (e :: es) X.env = (false, eval e X.env) :: starEach es X.env := by rfl) (hpl : (backTo pos (starEach es X.env)).any (·.1) = false := by rfl) : PE X (.Call (.Name x p) (e :: es) [] pos) (tW X.K (uCall f t)) :=
  PE.imp (pe_callB hc hg hm hv ha hn hdb he hpl) fun _ _ _ w => call_imp l w
theorem w_callT {T : String} {x : Str} {r : List V → Hp → VK → Prop} {f : List U → Sto → UK → Prop} {t : UL} {p : Pos} (hc : CallR X (.type T) r) (l : CL X.K r f) (hg : Gl X x) (hm : X.mg x = none) (hv : bootBuiltins x = some (.type T)) (ha : PA X (e :: es) (tWA X.K t)) (hn : x ≠ "__name__" := by decide) (hdb : (x == ("__debug__" : Str)) = false := by decide)
    (he : starEach (e :: es) X.env = (false, eval e X.env) :: starEach es X.env := by rfl) (hpl : (backTo pos (starEach es X.env)).any (·.1) = false := by rfl) : PE X (.Call (.Name x p) (e :: es) [] pos) (tW X.K (uCall f t)) :=
  PE.imp (pe_callTy hc hg hm hv ha hn hdb he hpl) fun _ _ _ w => call_imp l w
/-- of a module's name for a built-in function -/
theorem w_callM {id : String} {x : Str} {r : List V → Hp → VK → Prop} {f : List U → Sto → UK → Prop} {t : UL} {p : Pos} (hc : CallR X (.builtin id) r) (l : CL X.K r f) (hg : Gl X x) (hm : X.mg x = some (.builtin id)) (ha : PA X (e :: es) (tWA X.K t)) (hdb : (x == ("__debug__" : Str)) = false := by decide)
    (he : starEach (e :: es) X.env = (false, eval e X.env) :: starEach es X.env := by rfl) (hpl : (backTo pos (starEach es X.env)).any (·.1) = false := by rfl) : PE X (.Call (.Name x p) (e :: es) [] pos) (tW X.K (uCall f t)) :=
  PE.imp (pe_callBfun hc hg hm ha hdb he hpl) fun _ _ _ w => call_imp l w
theorem RUs.v1 {K : PySem.W.Frag} {H : Hp} {x : U} {vs : List V} (r : RUs K H [x] vs) : ∃ v, vs = [v] ∧ RU K H x v := by
  obtain ⟨w, ws, e, r1, r2⟩ := r
  rw [RUs.nil_eq r2] at e
  exact ⟨w, e, r1⟩
theorem RUs.v2 {K : PySem.W.Frag} {H : Hp} {x y : U} {vs : List V} (r : RUs K H [x, y] vs) : ∃ v w, vs = [v, w] ∧ RU K H x v ∧ RU K H y w := by
  obtain ⟨w, ws, e, r1, r2⟩ := r
  obtain ⟨w', e2, r3⟩ := r2.v1
  rw [e2] at e
  exact ⟨w, w', e, r1, r3⟩
def fAbs : List U → Sto → UK → Prop := fun xs S P => ∃ i, xs = [.int i] ∧ P (.int (if i < 0 then -i else i)) S
theorem cl_abs {K : PySem.W.Frag} : CL K (fun xs H Q => ∃ i, xs = [.int i] ∧ Q (.int (if i < 0 then -i else i)) H) fAbs := fun xs vs S H P Q r so h q => by
  obtain ⟨i, rfl, p⟩ := h
  obtain ⟨v, rfl, rv⟩ := r.v1
  exact ⟨i, by rw [show v = .int i from rv], q _ S _ H p rfl so (Ext.refl S H)⟩
def fInt : List U → Sto → UK → Prop := fun xs S P => ∃ i, xs = [.int i] ∧ P (.int i) S
theorem cl_int {K : PySem.W.Frag} : CL K (fun xs H Q => (∃ i, xs = [.int i] ∧ Q (.int i) H) ∨ ∃ k, xs = [.bl k] ∧ Q (.int (if k then 1 else 0)) H) fInt := fun xs vs S H P Q r so h q => by
  obtain ⟨i, rfl, p⟩ := h
  obtain ⟨v, rfl, rv⟩ := r.v1
  exact .inl ⟨i, by rw [show v = .int i from rv], q _ S _ H p rfl so (Ext.refl S H)⟩
/-- len of a list, a tuple, a text -/
def U.len (S : Sto) : U → Option Nat
  | .str z => if z.length ≤ sizeLine then some z.length else none
  | x => (U.seq S x).map List.length
def fLen : List U → Sto → UK → Prop := fun xs S P => ∃ x n, xs = [x] ∧ U.len S x = some n ∧ P (.int n) S
theorem cl_len {K : PySem.W.Frag} : CL K (fun xs H Q => ∃ x n, xs = [x] ∧ LenV K x H n ∧ Q (.int n) H) fLen := fun xs vs S H P Q r so h q => by
  obtain ⟨x, n, rfl, hl, p⟩ := h
  obtain ⟨v, rfl, rv⟩ := r.v1
  refine ⟨v, n, rfl, ?_, q _ S _ H p rfl so (Ext.refl S H)⟩
  by_cases hx : ∃ z, x = .str z
  · obtain ⟨z, rfl⟩ := hx
    rw [show v = .str z from rv]
    simp only [U.len] at hl
    split at hl
    · rename_i hz
      exact ⟨hz, (Option.some.inj hl).symm⟩
    · cases hl
  · have hs : ∃ us, U.seq S x = some us ∧ us.length = n := by
      cases x with
      | str z => exact absurd ⟨z, rfl⟩ hx
      | _ => simpa [U.len] using hl
    obtain ⟨us, h1, h2⟩ := hs
    obtain ⟨p', vs, rfl, sq, rr⟩ := seq_ok so rv h1
    rcases sq with sq | sq
    · exact .inl ⟨vs, sq, by rw [← h2, rr.length]⟩
    · exact .inr ⟨vs, sq, by rw [← h2, rr.length]⟩
def fGcd : List U → Sto → UK → Prop := fun xs S P => ∃ i j : Int, xs = [.int i, .int j] ∧ P (.int ((Nat.gcd i.natAbs j.natAbs : Nat) : Int)) S
theorem cl_gcd {K : PySem.W.Frag} : CL K rGcd fGcd := fun xs vs S H P Q r so h q => by
  obtain ⟨i, j, rfl, p⟩ := h
  obtain ⟨v, w, rfl, rv, rw'⟩ := r.v2
  exact ⟨i, j, by rw [show v = .int i from rv, show w = .int j from rw'], q _ S _ H p rfl so (Ext.refl S H)⟩

/-! ### a built-in call on one list that is new or read -/
/-- a reading of one list -/
theorem ldF {K : PySem.W.Frag} {l : UL} {σ : St} {H : Hp} {Q : VK} (w : tWL K l σ H Q) : tWF K l σ H Q := by
  obtain ⟨σu, S, P, re, so, h, q⟩ := w
  exact ⟨σu, S, P, re, so, h, fun us S1 p vs H1 h1 hn nw hp r so1 e1 => q us S1 p vs H1 h1 (.inl (.inl hp)) r so1 e1⟩
/-- a new list may be read -/
theorem w_FL {l : UL} (h : PE X e (tWF X.K l)) : PE X e (tWL X.K l) := PE.imp h fun _ _ _ w => ldF w
/-- a value that is a list may be read -/
def uRdL (a : UE) : UL := fun σ S P => a σ S fun x S1 => ∃ us, U.lis S1 x = some us ∧ P us S1
theorem w_rdL (h : PE X e (tW X.K ua)) : PE X e (tWL X.K (uRdL ua)) := PE.imp h fun σ H Q w => by
  obtain ⟨σu, S, P, re, so, h, q⟩ := w
  refine ⟨σu, S, _, re, so, h, fun x S1 v H1 ⟨us, hs, h1⟩ rx so1 e1 => ?_⟩
  obtain ⟨p, vs, rfl, sq, rr⟩ := lis_ok so1 rx hs
  exact q us S1 p vs H1 h1 sq rr so1 e1
def LL (K : PySem.W.Frag) (r : List V → Hp → VK → Prop) (f : List U → Sto → UK → Prop) : Prop := ∀ xs p vs S H P Q, SqL K H p vs → RUs K H xs vs → SO K H S → f xs S P → Post K S H P Q → r [.ref p] H Q
def uOn (f : List U → Sto → UK → Prop) (l : UL) : UE := fun σ S P => l σ S fun xs S1 => f xs S1 P
theorem on_imp {K : PySem.W.Frag} {r : List V → Hp → VK → Prop} {f : List U → Sto → UK → Prop} {t : UL} (l : LL K r f) {σ : St} {H : Hp} {Q : VK} (w : tW K (uOn f t) σ H Q) : tCB r (tCons (tWL K t) tNil) σ H Q := by
  obtain ⟨σu, S, P, re, so, h, q⟩ := w
  exact ⟨σu, S, _, re, so, h, fun xs S1 p vs H1 h1 sq rx so1 e1 => l xs p vs S1 H1 P Q sq rx so1 h1 (q.ext e1)⟩
theorem w_onB {id : String} {x : Str} {r : List V → Hp → VK → Prop} {f : List U → Sto → UK → Prop} {t : UL} {p : Pos} (hc : CallR X (.builtin id) r) (l : LL X.K r f) (hg : Gl X x) (hm : X.mg x = none) (hv : bootBuiltins x = some (.builtin id)) (ha : PE X e (tWL X.K t)) (hn : x ≠ "__name__" := by decide) (hdb : (x == ("__debug__" : Str)) = false := by decide)
    (he : starEach [e] X.env = (false, eval e X.env) :: starEach [] X.env := by rfl) (hpl : (backTo pos (starEach [] X.env)).any (·.1) = false := by rfl) : PE X (.Call (.Name x p) [e] [] pos) (tW X.K (uOn f t)) :=
  PE.imp (pe_callB hc hg hm hv (pa_cons ha pa_nil he) hn hdb he hpl) fun _ _ _ w => on_imp l w
theorem w_onT {T : String} {x : Str} {r : List V → Hp → VK → Prop} {f : List U → Sto → UK → Prop} {t : UL} {p : Pos} (hc : CallR X (.type T) r) (l : LL X.K r f) (hg : Gl X x) (hm : X.mg x = none) (hv : bootBuiltins x = some (.type T)) (ha : PE X e (tWL X.K t)) (hn : x ≠ "__name__" := by decide) (hdb : (x == ("__debug__" : Str)) = false := by decide)
    (he : starEach [e] X.env = (false, eval e X.env) :: starEach [] X.env := by rfl) (hpl : (backTo pos (starEach [] X.env)).any (·.1) = false := by rfl) : PE X (.Call (.Name x p) [e] [] pos) (tW X.K (uOn f t)) :=
  PE.imp (pe_callTy hc hg hm hv (pa_cons ha pa_nil he) hn hdb he hpl) fun _ _ _ w => on_imp l w
/-- tuple(list) -/
def fTupL : List U → Sto → UK → Prop := fun xs S P => P (.tup xs) S
theorem ll_tup {K : PySem.W.Frag} : LL K (fun xs H Q => ∃ p ys, xs = [.ref p] ∧ ((SqL K H p ys ∧ ∀ l, H l = none → Q (.ref l) (upd H l (.tup ys))) ∨ (SqT K H p ys ∧ Q (.ref p) H))) fTupL := fun xs p vs S H P Q sq r so h q => by
  refine ⟨p, vs, rfl, .inl ⟨sq, fun l hl => ?_⟩⟩
  have e4 : Ext S H S (upd H l (.tup vs)) := Ext.new hl (so.free hl)
  exact q _ S _ _ h ⟨l, vs, rfl, .inl (.inl upd_same), e4.rus so r⟩ (so.new hl) e4
/-- all(list of bools), any(..) -/
def bools : List U → Option (List Bool)
  | [] => some []
  | .bl b :: r => (bools r).map (b :: ·)
  | _ => none
theorem bools_ok {K : PySem.W.Frag} {H : Hp} : ∀ {us : List U} {vs : List V} {bs : List Bool}, RUs K H us vs → bools us = some bs → vs = bs.map V.bl
  | [], vs, bs, r, h => by cases Option.some.inj h; rw [RUs.nil_eq r]; rfl
  | u :: us, vs, bs, r, h => by
    obtain ⟨w, ws, e, r1, r2⟩ := r
    cases u with
    | bl b =>
      simp only [bools, Option.map_eq_some_iff] at h
      obtain ⟨cs, h1, h2⟩ := h
      rw [e, ← h2, show w = .bl b from r1, bools_ok r2 h1]
      rfl
    | _ => cases h
def fAll : List U → Sto → UK → Prop := fun xs S P => ∃ bs, bools xs = some bs ∧ P (.bl (bs.all id)) S
theorem ll_all {K : PySem.W.Frag} : LL K (rAll K) fAll := fun xs p vs S H P Q sq r so h q => by
  obtain ⟨bs, hb, p'⟩ := h
  have e := bools_ok r hb
  subst e
  exact ⟨p, bs, rfl, sq, q _ S _ H p' rfl so (Ext.refl S H)⟩

/-! ### list + list -/
/-- both new -/
def uCatF (l m : UL) : UL := fun σ S P => l σ S fun xs S1 => m σ S1 fun ys S2 => xs.length + ys.length ≤ sizeLine ∧ P (xs ++ ys) S2
theorem w_catF {l m : UL} (ha : PE X a (tWF X.K l)) (hb : PE X b (tWF X.K m)) : PE X (.BinOp a .Add b pos) (tWF X.K (uCatF l m)) := PE.imp (pe_op op_cat ha hb) fun σ H Q w => by
  obtain ⟨σu, S, P, re, so, h, q⟩ := w
  refine ⟨σu, S, _, re, so, h, fun xs S1 p vs H1 h1 hn nw hp rx so1 e1 => ?_⟩
  refine ⟨σu, S1, _, re.ext so e1, so1, h1, fun ys S2 p2 ws H2 ⟨hz, h2⟩ hn2 nw2 hp2 ry so2 e2 => ?_⟩
  refine ⟨p, p2, vs, ws, rfl, rfl, e2.keep p _ hp nw, hp2, by rw [← rx.length, ← ry.length]; exact hz, fun p3 hp3 => ?_⟩
  have e4 : Ext S2 H2 S2 (upd H2 p3 (.lst (vs ++ ws))) := Ext.new hp3 (so2.free hp3)
  exact q _ S2 p3 _ _ h2 (e1.live _ (e2.live _ hp3)) (so2.free hp3) upd_same (e4.rus so2 (RUs.append (e2.rus so1 rx) ry)) (so2.new hp3) ((e1.trans e2).trans e4)
/-- a known list and a new one -/
def uCatV (l : UE) (m : UL) : UL := fun σ S P => l σ S fun x S1 => m σ S1 fun ys S2 => ∃ a xs, x = .loc a ∧ S2 a = some (.lst xs) ∧ xs.length + ys.length ≤ sizeLine ∧ P (xs ++ ys) S2
theorem w_catV {m : UL} (ha : PE X a (tW X.K ua)) (hb : PE X b (tWF X.K m)) : PE X (.BinOp a .Add b pos) (tWF X.K (uCatV ua m)) := PE.imp (pe_op op_cat ha hb) fun σ H Q w => by
  obtain ⟨σu, S, P, re, so, h, q⟩ := w
  refine ⟨σu, S, _, re, so, h, fun x S1 v H1 h1 rx so1 e1 => ?_⟩
  refine ⟨σu, S1, _, re.ext so e1, so1, h1, fun ys S2 p2 ws H2 ⟨a, xs, ex, hS, hz, h2⟩ hn2 nw2 hp2 ry so2 e2 => ?_⟩
  subst ex
  obtain ⟨vs, hH, rr⟩ := so2 a _ hS
  refine ⟨a, p2, vs, ws, rx, rfl, hH, hp2, by rw [← rr.length, ← ry.length]; exact hz, fun p3 hp3 => ?_⟩
  have e4 : Ext S2 H2 S2 (upd H2 p3 (.lst (vs ++ ws))) := Ext.new hp3 (so2.free hp3)
  exact q _ S2 p3 _ _ h2 (e1.live _ (e2.live _ hp3)) (so2.free hp3) upd_same (e4.rus so2 (RUs.append rr ry)) (so2.new hp3) ((e1.trans e2).trans e4)
/-- an item of a new list -/
def uIxF (l : UL) (i : UE) : UE := fun σ S P => l σ S fun xs S1 => i σ S1 fun y S2 => ∃ k u, y = .int k ∧ atI xs k = some u ∧ P u S2
theorem w_ixF {l : UL} (ha : PE X a (tWF X.K l)) (hb : PE X b (tW X.K ub)) (hs : PlainIx b := by exact fun _ _ => rfl) : PE X (.Subscript a b pos) (tW X.K (uIxF l ub)) := PE.imp (pe_ix ix_list ha hb hs) fun σ H Q w => by
  obtain ⟨σu, S, P, re, so, h, q⟩ := w
  refine ⟨σu, S, _, re, so, h, fun xs S1 p vs H1 h1 hn nw hp rx so1 e1 => ?_⟩
  refine ⟨σu, S1, _, re.ext so e1, so1, h1, fun y S2 w H2 ⟨k, u, ey, ha, h2⟩ ry so2 e2 => ?_⟩
  subst ey
  obtain ⟨z, h3, h4⟩ := (e2.rus so1 rx).atI ha
  exact ⟨p, vs, k, z, rfl, ry, .inl (.inl (e2.keep p _ hp nw)), h3, q u S2 z H2 h2 h4 so2 (e1.trans e2)⟩
end
end Y

set_option Elab.async false
set_option linter.all false
set_option maxRecDepth 100000
set_option maxHeartbeats 2000000
namespace Y
open PySem L2

section
variable {X : Cx} {pos p2 : Pos} {a b c e : Expr} {ua ub uc : UE} {es : List Expr}

/-! ### isinstance -/
def U.tyn (S : Sto) : U → Option String
  | .non => some "NoneType"
  | .bl _ => some "bool"
  | .int _ => some "int"
  | .str _ => some "str"
  | .tup _ => some "tuple"
  | .rol _ => some "list"
  | .loc a => match S a with
    | some (.lst _) => some "list"
    | some (.dct _) => some "dict"
    | none => none
  | _ => none
theorem tyn_ok {K : PySem.W.Frag} {H : Hp} {S : Sto} {x : U} {v : V} {t : String} (so : SO K H S) (rx : RU K H x v) (h : U.tyn S x = some t) : TyX K H v (.type t) := by
  cases x with
  | non => rw [show v = .non from rx]; cases Option.some.inj h; exact .base .non
  | bl b => rw [show v = .bl b from rx]; cases Option.some.inj h; exact .base (.bl b)
  | int i => rw [show v = .int i from rx]; cases Option.some.inj h; exact .base (.int i)
  | str z => rw [show v = .str z from rx]; cases Option.some.inj h; exact .base (.str z)
  | tup us =>
    obtain ⟨p, vs, e, sq, r⟩ := rx
    rw [e]
    cases Option.some.inj h
    rcases sq with (sq | ⟨o, sq⟩) | ⟨o, its, n, h1, h2, _⟩
    · exact .base (.tup sq)
    · exact .fTuple sq
    · exact .kTuple h1 h2
  | rol us =>
    obtain ⟨p, vs, e, sq, r⟩ := rx
    rw [e]
    cases Option.some.inj h
    rcases sq with ⟨o, sq⟩ | ⟨o, its, n, h1, h2, _⟩
    · exact .base (.frz sq)
    · exact .kList h1 h2
  | loc a =>
    rw [show v = .ref a from rx]
    simp only [U.tyn] at h
    split at h
    · rename_i us e
      obtain ⟨vs, e2, r⟩ := so a _ e
      cases Option.some.inj h
      exact .base (.lst e2)
    · rename_i us e
      obtain ⟨vs, e2, r⟩ := so a _ e
      cases Option.some.inj h
      exact .base (.dK e2)
    · cases h
  | ty n => cases h
  | exc C fs => cases h
/-- what isinstance tells of the own classes of errors -/
structure Kin (K : PySem.W.Frag) (kin : Addr → String → Option Bool) : Prop where
  ok : ∀ C T b, kin C T = some b → ExcC K C ∧ (PySem.W.clsIn K C).isSome = true ∧ PySem.W.kitOne K (.ref C) (.type T) = some b
def fIsi (kin : Addr → String → Option Bool) : List U → Sto → UK → Prop := fun xs S P => ∃ x T b, xs = [x, .ty T] ∧ ((∃ t, U.tyn S x = some t ∧ kitB t T = some b) ∨ ∃ C fs, x = .exc C fs ∧ kin C T = some b) ∧ P (.bl b) S
/-- .. of both kinds -/
def rIsA (K : PySem.W.Frag) : List V → Hp → VK → Prop := fun xs H Q => rIsi K xs H Q ∨ ∃ (a C : Addr) (d : Option Addr) (vs : List (Str × V)) (T : String) (b : Bool), xs = [.ref a, .ty T] ∧ H a = some (exo a C d) ∧ (∀ dx, d = some dx → H dx = some (exd dx vs)) ∧ ExcC K C ∧ (PySem.W.clsIn K C).isSome = true ∧ PySem.W.kitOne K (.ref C) (.type T) = some b ∧ Q (.bl b) H
theorem call_isA : CallR X (.builtin "isinstance") (rIsA X.K) := by
  intro pins s σ H xs us Q I r h
  rcases h with h | ⟨a, C, d, vs, T, b, rfl, ha, hd, ec, hc, hk, q⟩
  · exact call_isi pins s σ H xs us Q I r h
  · obtain ⟨u1, u2, rfl, r1, r2⟩ := vals2 r
    cases (show u1 = Value.ref a from r1)
    cases (show u2 = Value.type T from r2)
    obtain ⟨t1, ho⟩ := exo_at I.hok ha
    have J : ∃ od, PySem.W.InstAt s.heap a { cls := .ref C, dict := d, data := .fields #[.ref t1, .none, .none, .none, .bool false, .none] } C od := by
      cases d with
      | none => exact ⟨none, ho, rfl, rfl, trivial⟩
      | some dx =>
        obtain ⟨mA, ⟨o, es, ep, e1, _⟩, _⟩ := exd_at I.hok (hd dx rfl)
        exact ⟨some o, ho, rfl, rfl, e1⟩
    obtain ⟨od, J⟩ := J
    exact PySem.W.kia_one (PySem.W.kitx_exc hc ec.hg ec.hk ec.hs ec.ha ec.hn ec.ht ec.hm) I.kIn J hk (fun z => nomatch z) fun tk => ⟨.bl b, H, I.tok tk, rfl, q⟩

theorem cl_isi {K : PySem.W.Frag} {kin : Addr → String → Option Bool} (kn : Kin K kin) : CL K (rIsA K) (fIsi kin) := fun xs vs S H P Q r so h q => by
  obtain ⟨x, T, b, rfl, ht, p⟩ := h
  obtain ⟨v, w, rfl, rv, rw'⟩ := r.v2
  rcases ht with ⟨t, h1, h2⟩ | ⟨C, fs, rfl, hk⟩
  · exact .inl ⟨v, w, .type t, .type T, b, rfl, by rw [show w = .ty T from rw']; exact .ty T, tyn_ok so rv h1, h2, q _ S _ H p rfl so (Ext.refl S H)⟩
  · obtain ⟨a, d, ws, e, h1, h2, r2⟩ := rv
    obtain ⟨k1, k2, k3⟩ := kn.ok C T b hk
    exact .inr ⟨a, C, some d, ws, T, b, by rw [e, show w = .ty T from rw'], h1, fun dx hdx => (Option.some.inj hdx) ▸ h2, k1, k2, k3, q _ S _ H p rfl so (Ext.refl S H)⟩
/-- a built-in type as a value -/
theorem w_ty {x : Str} {n : String} (hg : Gl X x) (hm : X.mg x = none) (hv : bootBuiltins x = some (.type n)) (hn : x ≠ "__name__" := by decide) (hd : (x == ("__debug__" : Str)) = false := by decide) : PE X (.Name x pos) (tW X.K (uC (.ty n))) :=
  w_c (pe_bltn (v := .ty n) hg hm hv rfl hn hd) fun _ => rfl

/-! ### a sign in a text -/
def fInS (neg : Bool) : U → U → Sto → UK → Prop := fun x y S P => ∃ (c : Nat) (z : Str), x = .str ⟨#[c]⟩ ∧ y = .str z ∧ P (.bl (if neg then !decide (c ∈ z.cps.toList) else decide (c ∈ z.cps.toList))) S
theorem bl_inS {K : PySem.W.Frag} : BL K (fun x y H Q => ∃ (c : Nat) (z : Str), x = .str ⟨#[c]⟩ ∧ y = .str z ∧ Q (.bl (decide (c ∈ z.cps.toList))) H) (fInS false) := fun x y v w S H P Q rx ry so hf q => by
  obtain ⟨c, z, rfl, rfl, p⟩ := hf
  exact ⟨c, z, rx, ry, q _ S _ H p rfl so (Ext.refl S H)⟩
theorem bl_niS {K : PySem.W.Frag} : BL K (fun x y H Q => ∃ (c : Nat) (z : Str), x = .str ⟨#[c]⟩ ∧ y = .str z ∧ Q (.bl (!decide (c ∈ z.cps.toList))) H) (fInS true) := fun x y v w S H P Q rx ry so hf q => by
  obtain ⟨c, z, rfl, rfl, p⟩ := hf
  exact ⟨c, z, rx, ry, q _ S _ H p rfl so (Ext.refl S H)⟩

/-! ### == of a new list with [] -/
def fEmptyF (neg : Bool) : List U → Sto → (Bool → Prop) → Prop := fun xs _ k => k (if neg then !xs.isEmpty else xs.isEmpty)

/-! ### statements -/
variable {st : Stmt} {rest sts : List Stmt} {us ut : US}
def uNext : US := fun D σ S => D.nx σ S
def uSeq (t u : US) : US := fun D σ S => t { D with nx := u D } σ S
theorem wss_nil : PSs X [] (tWS X.K uNext) := PSs.imp pss_nil fun D σ H w => by
  obtain ⟨σu, S, G, re, so, h, q1, _, _, _⟩ := w
  exact q1 σu S σ H h re so (Ext.refl S H)
theorem wss_cons (h1 : PS X st (tWS X.K us)) (h2 : PSs X rest (tWS X.K ut)) : PSs X (st :: rest) (tWS X.K (uSeq us ut)) := PSs.imp (pss_cons h1 h2) fun D σ H w => by
  obtain ⟨σu, S, G, re, so, h, q1, q2, q3, q4⟩ := w
  refine ⟨σu, S, _, re, so, h, fun σu' S' σ' H' hn re' so' e' => ?_, q2, q3, q4⟩
  exact ⟨σu', S', G, re', so', hn, fun a b c d h r s e => q1 a b c d h r s (e'.trans e), q2.ext e', fun a b c d h r s e => q3 a b c d h r s (e'.trans e), fun a b c d h r s e => q4 a b c d h r s (e'.trans e)⟩
theorem wss_one (h1 : PS X st (tWS X.K us)) : PSs X [st] (tWS X.K us) := pss_one h1
theorem ws_pass : PS X (.Pass pos) (tWS X.K uNext) := PS.imp ps_pass fun D σ H w => by
  obtain ⟨σu, S, G, re, so, h, q1, _, _, _⟩ := w
  exact q1 σu S σ H h re so (Ext.refl S H)
def uBrk : US := fun D σ S => D.bk σ S
def uCnt : US := fun D σ S => D.ct σ S
theorem ws_brk : PS X (.Break pos) (tWS X.K uBrk) := PS.imp ps_break fun D σ H w => by
  obtain ⟨σu, S, G, re, so, h, _, _, q3, _⟩ := w
  exact q3 σu S σ H h re so (Ext.refl S H)
theorem ws_cnt : PS X (.Continue pos) (tWS X.K uCnt) := PS.imp ps_continue fun D σ H w => by
  obtain ⟨σu, S, G, re, so, h, _, _, _, q4⟩ := w
  exact q4 σu S σ H h re so (Ext.refl S H)
def uDo (e : UE) : US := fun D σ S => e σ S fun _ S1 => D.nx σ S1
theorem ws_do (he : PE X e (tW X.K ua)) (hs : swapsWith e none pos.line X.env = pure false := by rfl) : PS X (.Expr e pos) (tWS X.K (uDo ua)) := PS.imp (ps_expr he hs) fun D σ H w => by
  obtain ⟨σu, S, G, re, so, h, q1, _, _, _⟩ := w
  exact ⟨σu, S, _, re, so, h, fun u S1 v H1 h1 rx so1 e1 => q1 σu S1 σ H1 h1 (re.ext so e1) so1 e1⟩
def uRet (e : UE) : US := fun D σ S => e σ S D.rt
theorem ws_ret (he : PE X e (tW X.K ua)) : PS X (.Return (some e) pos) (tWS X.K (uRet ua)) := PS.imp (ps_ret he) fun D σ H w => by
  obtain ⟨σu, S, G, re, so, h, _, q2, _, _⟩ := w
  exact ⟨σu, S, _, re, so, h, q2⟩
def uRetN : US := fun D σ S => D.rt .non S
theorem ws_retN : PS X (.Return none pos) (tWS X.K uRetN) := PS.imp ps_retN fun D σ H w => by
  obtain ⟨σu, S, G, re, so, h, _, q2, _, _⟩ := w
  exact q2 _ S _ H h rfl so (Ext.refl S H)
def uIfS (t : UT) (a b : US) : US := fun D σ S => t σ S fun k S1 => if k = true then a D σ S1 else b D σ S1
theorem ws_if {sa sb : List Stmt} {tc : UT} (hc : PT X c (tWT X.K tc)) (ha : PSs X sa (tWS X.K us)) (hb : PSs X sb (tWS X.K ut)) : PS X (.If c sa sb pos) (tWS X.K (uIfS tc us ut)) := PS.imp (ps_if hc ha hb) fun D σ H w => by
  obtain ⟨σu, S, G, re, so, h, q1, q2, q3, q4⟩ := w
  refine ⟨σu, S, _, re, so, h, fun k S1 H1 h1 so1 e1 => ?_⟩
  have go : ∀ {w : US}, w G σu S1 → tWS X.K w D σ H1 := fun {w} hw => ⟨σu, S1, G, re.ext so e1, so1, hw, fun a b c d h r s e => q1 a b c d h r s (e1.trans e), q2.ext e1, fun a b c d h r s e => q3 a b c d h r s (e1.trans e), fun a b c d h r s e => q4 a b c d h r s (e1.trans e)⟩
  cases k with
  | true => simp only [if_true] at h1 ⊢; exact go h1
  | false => simp only [Bool.false_eq_true, if_false] at h1 ⊢; exact go h1

/-! ### targets and stores -/
abbrev UG := U → Ev → Sto → (Ev → Sto → Prop) → Prop
def tWG (K : PySem.W.Frag) (g : UG) : TG := fun v σ H Q => ∃ u σu S P, RU K H u v ∧ REnv K H σu σ ∧ SO K H S ∧ g u σu S P ∧ ∀ σu' S' σ' H', P σu' S' → REnv K H' σu' σ' → SO K H' S' → Ext S H S' H' → Q σ' H'
theorem PG.imp {X : Cx} {e : Expr} {t t' : TG} (h : PG X e t) (i : ∀ v σ H Q, t' v σ H Q → t v σ H Q) : PG X e t' := ⟨fun pins s σ H v u Q I r w => h.run pins s σ H v u Q I r (i _ _ _ _ w)⟩
def ugName (i : Nat) : UG := fun u σ S P => P (σ.set i (some u)) S
theorem wg_name {i : Nat} {x : Str} (h : PG X (.Name x pos) (gName i)) : PG X (.Name x pos) (tWG X.K (ugName i)) := PG.imp h fun v σ H Q w => by
  obtain ⟨u, σu, S, P, r, re, so, h, q⟩ := w
  exact q _ S _ H h (re.set i r) so (Ext.refl S H)
abbrev UGs := List U → Ev → Sto → (Ev → Sto → Prop) → Prop
def tWGs (K : PySem.W.Frag) (g : UGs) : TGs := fun vs σ H Q => ∃ us σu S P, RUs K H us vs ∧ REnv K H σu σ ∧ SO K H S ∧ g us σu S P ∧ ∀ σu' S' σ' H', P σu' S' → REnv K H' σu' σ' → SO K H' S' → Ext S H S' H' → Q σ' H'
theorem PGs.imp {X : Cx} {e : List Expr} {t t' : TGs} (h : PGs X e t) (i : ∀ v σ H Q, t' v σ H Q → t v σ H Q) : PGs X e t' := ⟨fun pins s σ H v u Q I r w => h.run pins s σ H v u Q I r (i _ _ _ _ w)⟩
def ugNil : UGs := fun us σ S P => us = [] ∧ P σ S
def ugCons (g : UG) (r : UGs) : UGs := fun us σ S P => ∃ u us', us = u :: us' ∧ g u σ S fun σ1 S1 => r us' σ1 S1 P
theorem wg_nil : PGs X [] (tWGs X.K ugNil) := PGs.imp pgs_nil fun vs σ H Q w => by
  obtain ⟨us, σu, S, P, r, re, so, ⟨e, h⟩, q⟩ := w
  subst e
  exact ⟨RUs.nil_eq r, q _ S _ H h re so (Ext.refl S H)⟩
theorem wg_cons {ts : List Expr} {g : UG} {gr : UGs} (h1 : PG X e (tWG X.K g)) (h2 : PGs X ts (tWGs X.K gr)) (hs : (assignEach (e :: ts) X.env).map (·.2) = assign e X.env :: (assignEach ts X.env).map (·.2) := by rfl) : PGs X (e :: ts) (tWGs X.K (ugCons g gr)) := PGs.imp (pgs_cons h1 h2 hs) fun vs σ H Q w => by
  obtain ⟨us, σu, S, P, r, re, so, ⟨u, us', e, h⟩, q⟩ := w
  subst e
  obtain ⟨v, vs', ev, r1, r2⟩ := r
  refine ⟨v, vs', ev, u, σu, S, _, r1, re, so, h, fun σu1 S1 σ1 H1 h1 re1 so1 e1 => ?_⟩
  exact ⟨us', σu1, S1, P, e1.rus so r2, re1, so1, h1, fun a b c d h r s e => q a b c d h r s (e1.trans e)⟩
/-- a, b = a tuple -/
def ugTup (n : Nat) (g : UGs) : UG := fun u σ S P => ∃ us, u = .tup us ∧ us.length = n ∧ g us σ S P
theorem wg_tup {ts : List Expr} {k : Nat} {g : UGs} {n : Nat} (hc : X.calm = true) (h : PGs X ts (tWGs X.K g)) (hn : (assignEach ts X.env).length = n := by rfl) (hst : (assignEach ts X.env).findIdx? (·.1) = none := by rfl) : PG X (.Tuple ts k pos) (tWG X.K (ugTup n g)) := PG.imp (pg_tup hc h hn hst) fun v σ H Q w => by
  obtain ⟨u, σu, S, P, r, re, so, ⟨us, e, hl, h⟩, q⟩ := w
  subst e
  obtain ⟨p, vs, ev, sq, r2⟩ := r
  exact ⟨p, vs, ev, sq, by rw [← r2.length]; exact hl, us, σu, S, P, r2, re, so, h, q⟩
def uAsg (e : UE) (g : UG) : US := fun D σ S => e σ S fun u S1 => g u σ S1 D.nx
theorem asg_imp {K : PySem.W.Frag} {g : UG} {D : Ends} {σ : St} {H : Hp} (w : tWS K (uAsg ua g) D σ H) : tAsg (tW K ua) (tWG K g) D σ H := by
  obtain ⟨σu, S, G, re, so, h, q1, _, _, _⟩ := w
  refine ⟨σu, S, _, re, so, h, fun u S1 v H1 h1 rx so1 e1 => ?_⟩
  exact ⟨u, σu, S1, _, rx, re.ext so e1, so1, h1, fun a b c d h r s e => q1 a b c d h r s (e1.trans e)⟩
theorem ws_asg {tg : Expr} {g : UG} (he : PE X e (tW X.K ua)) (hg : PG X tg (tWG X.K g)) (hs : swapsWithSole [tg] e pos.line X.env = pure false := by rfl) (hw : swappedStores [tg] e X.env = pure none := by rfl) (h1 : (assignEach [tg] X.env).map (·.2) = [assign tg X.env] := by rfl) : PS X (.Assign [tg] e pos) (tWS X.K (uAsg ua g)) :=
  PS.imp (ps_asg he hg hs hw h1) fun _ _ _ w => asg_imp w
theorem ws_set {i : Nat} {x : Str} {pos' : Pos} (hN : X.N.Nodup) (hi : X.N[i]? = some x) (hx : Loc X.env.scope x) (he : PE X e (tW X.K ua)) (hs : swapsWith e (some (.Name x pos')) pos.line X.env = pure false := by rfl) (hf : X.fn x = true ∨ X.env.scope.names.lookup x = some .local := by first | exact .inl rfl | exact .inr rfl | assumption) :
    PS X (.Assign [.Name x pos'] e pos) (tWS X.K (uAsg ua (ugName i))) := PS.imp (ps_set hN hi hx he hs hf) fun D σ H w => by
  obtain ⟨σu, S, G, re, so, h, q1, _, _, _⟩ := w
  exact ⟨σu, S, _, re, so, h, fun u S1 v H1 h1 rx so1 e1 => q1 _ S1 _ H1 h1 ((re.ext so e1).set i rx) so1 e1⟩
/-- a, b = x, y -/
def uPar (is : List Nat) (t : UL) : US := fun D σ S => t σ S fun us S1 => us.length = is.length ∧ D.nx ((is.zip us).foldl (fun σ p => σ.set p.1 (some p.2)) σ) S1
theorem ws_par {i j : Nat} {x y : Str} {px py pt : Pos} {kt k2 pt2} {t : UL} (hc : X.calm = true) (hN : X.N.Nodup) (hi : X.N[i]? = some x) (hj : X.N[j]? = some y) (hij : i ≠ j)
    (hx : X.env.scope.names.lookup x = some .local) (hy : X.env.scope.names.lookup y = some .local) (ha : PA X [a, b] (tWA X.K t))
    (hw : swappedStores [.Tuple [.Name x px, .Name y py] kt pt] (.Tuple [a, b] k2 pt2) X.env = pure (some [x, y]))
    (hs : swapsWithSole [.Tuple [.Name x px, .Name y py] kt pt] (.Tuple [a, b] k2 pt2) pos.line X.env = pure false := by rfl) :
    PS X (.Assign [.Tuple [.Name x px, .Name y py] kt pt] (.Tuple [a, b] k2 pt2) pos) (tWS X.K (uPar [i, j] t)) := PS.imp (ps_par hc hN hi hj hij hx hy ha hw hs) fun D σ H w => by
  obtain ⟨σu, S, G, re, so, h, q1, _, _, _⟩ := w
  refine ⟨σu, S, _, re, so, h, fun us S1 vs H1 ⟨hl, h1⟩ rx so1 e1 => ?_⟩
  obtain ⟨u1, u2, rfl⟩ : ∃ u1 u2, us = [u1, u2] := by
    match us, hl with
    | [u1, u2], _ => exact ⟨u1, u2, rfl⟩
  obtain ⟨v, w, rfl, r1, r2⟩ := rx.v2
  exact ⟨v, w, rfl, q1 _ S1 _ H1 h1 (((re.ext so e1).set i r1).set j r2) so1 e1⟩
/-- xs[i] = v -/
def uSetL (o i e : UE) : US := fun D σ S => e σ S fun v S1 => o σ S1 fun x S2 => i σ S2 fun y S3 => ∃ a k xs j, x = .loc a ∧ y = .int k ∧ S3 a = some (.lst xs) ∧ ixN xs.length k = some j ∧ D.nx σ (sput S3 a (.lst (xs.set j v)))
theorem ws_setL {o i : Expr} {uo ui : UE} {p' : Pos} (ho : PE X o (tW X.K uo)) (hi : PE X i (tW X.K ui)) (he : PE X e (tW X.K ua))
    (hg : ∀ {to ti : TE}, PE X o to → PE X i ti → PG X (.Subscript o i p') (gSub to ti rSetL)) (hs : swapsWithSole [.Subscript o i p'] e pos.line X.env = pure false := by rfl) (hw : swappedStores [.Subscript o i p'] e X.env = pure none := by rfl) (h1 : (assignEach [.Subscript o i p'] X.env).map (·.2) = [assign (.Subscript o i p') X.env] := by rfl) :
    PS X (.Assign [.Subscript o i p'] e pos) (tWS X.K (uSetL uo ui ua)) := PS.imp (ps_asg he (hg ho hi) hs hw h1) fun D σ H w => by
  obtain ⟨σu, S, G, re, so, h, q1, _, _, _⟩ := w
  refine ⟨σu, S, _, re, so, h, fun u S1 v H1 h1 ru so1 e1 => ?_⟩
  refine ⟨σu, S1, _, re.ext so e1, so1, h1, fun x S2 vx H2 h2 rx so2 e2 => ?_⟩
  refine ⟨σu, S2, _, (re.ext so e1).ext so1 e2, so2, h2, fun y S3 vy H3 ⟨a, k, xs, j, ex, ey, hS, hj, hn⟩ ry so3 e3 => ?_⟩
  subst ex ey
  obtain ⟨vs, hH, r⟩ := so3 a _ hS
  have ru3 := e3.ru so2 (e2.ru so1 ru)
  have w : Wr S3 a := ⟨_, hS⟩
  have hne : H3 a ≠ none := by rw [hH]; exact fun z => nomatch z
  have e4 : Ext S3 H3 (sput S3 a (.lst (xs.set j u))) (upd H3 a (.lst (vs.set j v))) := Ext.wrt w hne
  refine ⟨a, vs, k, j, rx, ry, hH, by rw [← r.length]; exact hj, q1 σu _ σ _ hn ((((re.ext so e1).ext so1 e2).ext so2 e3).ext so3 e4) (so3.wrt w hne ⟨_, upd_same, e4.rus so3 (RUs.set ru3 j r)⟩) (((e1.trans e2).trans e3).trans e4)⟩
end
end Y

set_option Elab.async false
set_option linter.all false
set_option maxRecDepth 100000
set_option maxHeartbeats 2000000
namespace Y
open PySem L2 PySem.Spec PyProof.Rows

section
variable {X : Cx} {pos p2 : Pos} {a b c e : Expr} {ua ub uc : UE} {es : List Expr} {tg : Expr}

/-! ### what is walked -/
structure Src (K : PySem.W.Frag) (ok : Hp → Prop) (us : List U) (J : It) : Prop where
  go : ∀ H i, ok H → i < us.length → J.go i H
  stop : ∀ H i, ok H → us.length ≤ i → J.stop i H
  yld : ∀ H i x H', ok H → i < us.length → J.yld i H x H' → H' = H ∧ ∃ u, us[i]? = some u ∧ RU K H u x
abbrev UW := Ev → Sto → (List U → (Sto → Prop) → Sto → Prop) → Prop
def tWI (K : PySem.W.Frag) (w : UW) : TI := fun σ H R => ∃ σu S P, REnv K H σu σ ∧ SO K H S ∧ w σu S P ∧ ∀ us keep S' H' J ok, P us keep S' → SO K H' S' → Ext S H S' H' → Src K ok us J →
  (∀ S1 H1, SO K H1 S1 → Ext S' H' S1 H1 → keep S1 → ok H1) → R J H'
theorem PI.imp {X : Cx} {tg e : Expr} {t t' : TI} (h : PI X tg e t) (i : ∀ σ H R, t' σ H R → t σ H R) : PI X tg e t' := ⟨fun pins s σ H R I w => h.run pins s σ H R I (i _ _ _ w)⟩
theorem src_list {K : PySem.W.Frag} {a : Addr} {us : List U} : Src K (fun H => ∃ vs, SqL K H a vs ∧ RUs K H us vs) us (Itl K a) where
  go := fun H i ⟨vs, sq, r⟩ hi => by
    have hl := r.length
    exact ⟨vs, vs[i]'(by omega), sq, by simp [show i < vs.length by omega]⟩
  stop := fun H i ⟨vs, sq, r⟩ hi => ⟨vs, sq, by rw [← r.length]; exact hi⟩
  yld := fun H i x H' ⟨vs, sq, r⟩ hi h => by
    obtain ⟨e, y⟩ := h
    subst e
    exact ⟨rfl, r.getV (y vs sq)⟩
theorem src_tup {K : PySem.W.Frag} {a : Addr} {us : List U} : Src K (fun H => ∃ vs, SqT K H a vs ∧ RUs K H us vs) us (Itt K a) where
  go := fun H i ⟨vs, sq, r⟩ hi => by
    have hl := r.length
    exact ⟨vs, vs[i]'(by omega), sq, by simp [show i < vs.length by omega]⟩
  stop := fun H i ⟨vs, sq, r⟩ hi => ⟨vs, sq, by rw [← r.length]; exact hi⟩
  yld := fun H i x H' ⟨vs, sq, r⟩ hi h => by
    obtain ⟨e, y⟩ := h
    subst e
    exact ⟨rfl, r.getV (y vs sq)⟩
/-- a new list -/
def uwF (l : UL) : UW := fun σ S P => l σ S fun us S1 => P us (fun _ => True) S1
theorem wi_F {l : UL} (h : PE X e (tWF X.K l)) : PI X tg e (tWI X.K (uwF l)) := PI.imp (pi_list h) fun σ H R w => by
  obtain ⟨σu, S, P, re, so, h, q⟩ := w
  refine ⟨σu, S, _, re, so, h, fun us S1 p vs H1 h1 hn nw hp rx so1 e1 => ⟨p, rfl, ⟨vs, .inl (.inl hp)⟩, ?_⟩⟩
  refine q us _ S1 H1 _ _ h1 so1 e1 src_list fun S2 H2 so2 e2 _ => ⟨vs, .inl (.inl (e2.keep p _ hp nw)), e2.rus so1 rx⟩
/-- a list or a tuple that a value is -/
def iEither (K : PySem.W.Frag) (tl : TE) : TI := fun σ H R => tl σ H fun x H1 => ∃ a, x = .ref a ∧ (((∃ xs, SqL K H1 a xs) ∧ R (Itl K a) H1) ∨ ((∃ xs, SqT K H1 a xs) ∧ R (Itt K a) H1))
theorem pi_either {tl : TE} (hl : PE X e tl) : PI X tg e (iEither X.K tl) := by
  refine ⟨fun pins s σ H R I h => ?_⟩
  refine thn (hl.run pins s σ H _ I h) fun v s1 ⟨x, H1, I1, r1, q1⟩ => ?_
  obtain ⟨a, e, q⟩ := q1
  subst e
  cases r1
  have hf : ∀ b ∈ [s1.heap.objs.size], FpOk X pins H1 b := fun b hb => by
    have e : b = s1.heap.objs.size := by simpa using hb
    subst e
    exact I1.fpOk (Nat.le_refl _) (I1.hok.fresh (Nat.le_refl _))
  rcases q with ⟨⟨xs, hq⟩, q⟩ | ⟨⟨xs, hq⟩, q⟩
  · obtain ⟨its, rv, p, hz⟩ := I1.list hq
    refine wpAny_pyIter_list p.isList ?_
    exact ⟨s1.heap.objs.size, [s1.heap.objs.size], _, _, H1, rfl, I1.kept (t' := s1.toks) fun b o e => Heap.get?_push_of_some _ e, turn_list a _, ⟨_, Heap.get?_push_size _ rfl, rfl, rfl⟩, hf, q⟩
  · obtain ⟨its, rv, p, hz⟩ := I1.tuple hq
    refine wpAny_pyIter_tuple (show s1.heap.IsTuple a its.toArray from p) ?_
    exact ⟨s1.heap.objs.size, [s1.heap.objs.size], _, _, H1, rfl, I1.kept (t' := s1.toks) fun b o e => Heap.get?_push_of_some _ e, turn_tuple a _, ⟨_, Heap.get?_push_size _ rfl, rfl, rfl⟩, hf, q⟩
/-- what stays while a value is walked -/
def keepV (u : U) (us : List U) : Sto → Prop := match u with
  | .loc a => fun S => S a = some (.lst us)
  | _ => fun _ => True
def uwV (a : UE) : UW := fun σ S P => a σ S fun u S1 => ∃ us, U.seq S1 u = some us ∧ P us (keepV u us) S1
theorem wi_V (h : PE X e (tW X.K ua)) : PI X tg e (tWI X.K (uwV ua)) := PI.imp (pi_either h) fun σ H R w => by
  obtain ⟨σu, S, P, re, so, h, q⟩ := w
  refine ⟨σu, S, _, re, so, h, fun u S1 v H1 ⟨us, hs, h1⟩ rx so1 e1 => ?_⟩
  cases u with
  | tup ws =>
    obtain ⟨p, vs, e, sq, r⟩ := rx
    cases Option.some.inj hs
    exact ⟨p, e, .inr ⟨⟨vs, sq⟩, q _ _ S1 H1 _ _ h1 so1 e1 src_tup fun S2 H2 so2 e2 _ => ⟨vs, e2.sqT so1 sq, e2.rus so1 r⟩⟩⟩
  | rol ws =>
    obtain ⟨p, vs, e, sq, r⟩ := rx
    cases Option.some.inj hs
    exact ⟨p, e, .inl ⟨⟨vs, sq.sq⟩, q _ _ S1 H1 _ _ h1 so1 e1 src_list fun S2 H2 so2 e2 _ => ⟨vs, (e2.frz so1 sq).sq, e2.rus so1 r⟩⟩⟩
  | loc a =>
    simp only [U.seq] at hs
    split at hs
    · rename_i ws e
      cases Option.some.inj hs
      obtain ⟨vs, e2, r⟩ := so1 a _ e
      refine ⟨a, rx, .inl ⟨⟨vs, .inl (.inl e2)⟩, q _ _ S1 H1 _ _ h1 so1 e1 src_list fun S2 H2 so2 e2 k => ?_⟩⟩
      obtain ⟨vs2, e3, r2⟩ := so2 a _ k
      exact ⟨vs2, .inl (.inl e3), r2⟩
    · cases hs
  | _ => cases hs
/-- a range -/
def rngU (lo : Int) (n : Nat) : List U := (List.range n).map fun (k : Nat) => U.int (lo + (k : Int))
theorem src_rng {K : PySem.W.Frag} {lo : Int} {n : Nat} : Src K (fun _ => True) (rngU lo n) (Itr lo n) where
  go := fun H i _ hi => by
    have : i < n := by simpa [rngU] using hi
    exact this
  stop := fun H i _ hi => by
    have : n ≤ i := by simpa [rngU] using hi
    exact this
  yld := fun H i x H' _ hi h => by
    obtain ⟨e, y⟩ := h
    refine ⟨e, .int (lo + i), ?_, y⟩
    have : i < n := by simpa [rngU] using hi
    simp [rngU, this]
def uwR1 (a : UE) : UW := fun σ S P => a σ S fun u S1 => ∃ n : Int, u = .int n ∧ n < 2 ^ 62 ∧ -(2 ^ 62) ≤ n ∧ P (rngU 0 n.toNat) (fun _ => True) S1
theorem wi_R1 {p : Pos} (hg : Gl X "range") (hm : X.mg "range" = none) (ha : PE X a (tW X.K ua)) (hs : starEach [a] X.env = [(false, eval a X.env)] := by rfl) : PI X tg (.Call (.Name "range" p) [a] [] pos) (tWI X.K (uwR1 ua)) := PI.imp (pi_range1 hg hm (pa_cons ha pa_nil hs) hs) fun σ H R w => by
  obtain ⟨σu, S, P, re, so, h, q⟩ := w
  refine ⟨σu, S, _, re, so, h, fun u S1 v H1 ⟨n, eu, h1, h2, h3⟩ rx so1 e1 => ?_⟩
  subst eu
  exact ⟨n, by rw [show v = .int n from rx], h2, h1, q _ _ S1 H1 _ _ h3 so1 e1 src_rng fun _ _ _ _ _ => trivial⟩
def uwR2 (a b : UE) : UW := fun σ S P => a σ S fun u S1 => b σ S1 fun w S2 => ∃ l n : Int, u = .int l ∧ w = .int n ∧ (-(2 ^ 62) ≤ l ∧ l < 2 ^ 62 ∧ -(2 ^ 62) ≤ n ∧ n < 2 ^ 62) ∧ P (rngU l (n - l).toNat) (fun _ => True) S2
theorem wi_R2 {p : Pos} (hg : Gl X "range") (hm : X.mg "range" = none) (ha : PE X a (tW X.K ua)) (hb : PE X b (tW X.K ub)) (hs : starEach [a, b] X.env = [(false, eval a X.env), (false, eval b X.env)] := by rfl) (hs2 : starEach [b] X.env = [(false, eval b X.env)] := by rfl) (hs3 : starEach (a :: [b]) X.env = (false, eval a X.env) :: starEach [b] X.env := by rfl) : PI X tg (.Call (.Name "range" p) [a, b] [] pos) (tWI X.K (uwR2 ua ub)) := PI.imp (pi_range2 hg hm (pa_cons ha (pa_cons hb pa_nil hs2) hs3) hs hs2) fun σ H R w => by
  obtain ⟨σu, S, P, re, so, h, q⟩ := w
  refine ⟨σu, S, _, re, so, h, fun u S1 v H1 h1 rx so1 e1 => ?_⟩
  refine ⟨σu, S1, _, re.ext so e1, so1, h1, fun w' S2 v2 H2 ⟨l, n, eu, ew, hb, h3⟩ ry so2 e2 => ?_⟩
  subst eu ew
  exact ⟨l, n, by rw [show v = .int l from rx, show v2 = .int n from ry], hb, q _ _ S2 H2 _ _ h3 so2 (e1.trans e2) src_rng fun _ _ _ _ _ => trivial⟩
/-- the signs of a text -/
def sgnU (x : Str) : List U := x.cps.toList.map fun c => .str ⟨#[c]⟩
theorem src_sgn {K : PySem.W.Frag} {x : Str} : Src K (fun _ => True) (sgnU x) (Its x) where
  go := fun H i _ hi => by
    have : i < x.cps.size := by simpa [sgnU] using hi
    exact this
  stop := fun H i _ hi => by
    have : x.cps.size ≤ i := by simpa [sgnU] using hi
    exact this
  yld := fun H i v H' _ hi h => by
    obtain ⟨e, c, hc, y⟩ := h
    refine ⟨e, .str ⟨#[c]⟩, ?_, y⟩
    simp [sgnU, hc]
def uwS (a : UE) : UW := fun σ S P => a σ S fun u S1 => ∃ x : Str, u = .str x ∧ P (sgnU x) (fun _ => True) S1
theorem wi_S (ha : PE X a (tW X.K ua)) : PI X tg a (tWI X.K (uwS ua)) := PI.imp (pi_str ha) fun σ H R w => by
  obtain ⟨σu, S, P, re, so, h, q⟩ := w
  refine ⟨σu, S, _, re, so, h, fun u S1 v H1 ⟨x, eu, h3⟩ rx so1 e1 => ?_⟩
  subst eu
  exact ⟨x, rx, q _ _ S1 H1 _ _ h3 so1 e1 src_sgn fun _ _ _ _ _ => trivial⟩

/-! ### for -/
def uTurns (g : UG) (b : US) (keep : Sto → Prop) : List U → US
  | [] => fun D σ S => keep S ∧ D.nx σ S
  | x :: r => fun D σ S => keep S ∧ g x σ S fun σ1 S1 => b { D with nx := uTurns g b keep r D, ct := uTurns g b keep r D, bk := D.nx } σ1 S1
def uFor (w : UW) (g : UG) (b : US) : US := fun D σ S => w σ S fun us keep S1 => uTurns g b keep us D σ S1
theorem uTurns_keep {g : UG} {b : US} {keep : Sto → Prop} {us : List U} {D : UD} {σ : Ev} {S : Sto} (h : uTurns g b keep us D σ S) : keep S := by
  cases us with
  | nil => exact h.1
  | cons x r => exact h.1
theorem for_imp {K : PySem.W.Frag} {w : UW} {g : UG} {ub : US} {D : Ends} {σ : L2.St} {H : Hp} (h : tWS K (uFor w g ub) D σ H) : tFor (tWI K w) (tWG K g) (tWS K ub) D σ H := by
  obtain ⟨σu, S, G, re, so, h, q1, q2, q3, q4⟩ := h
  refine ⟨σu, S, _, re, so, h, fun us keep S1 H1 J ok h1 so1 e1 src okk => ?_⟩
  refine ⟨fun i m σ2 H2 => m = us.length - i ∧ i ≤ us.length ∧ ∃ σu2 S2, REnv K H2 σu2 σ2 ∧ SO K H2 S2 ∧ Ext S1 H1 S2 H2 ∧ uTurns g ub keep (us.drop i) G σu2 S2, ⟨us.length, by simp, Nat.zero_le _, σu, S1, re.ext so e1, so1, Ext.refl _ _, h1⟩, ?_⟩
  rintro i m σ2 H2 ⟨rfl, hi, σu2, S2, re2, so2, e2, h2⟩
  have hk : ok H2 := okk S2 H2 so2 e2 (uTurns_keep h2)
  by_cases hlt : i < us.length
  · refine .inr ⟨src.go H2 i hk hlt, fun σ' H' => ∃ σu2 S2, REnv K H' σu2 σ' ∧ SO K H' S2 ∧ Ext S1 H1 S2 H' ∧ uTurns g ub keep (us.drop (i + 1)) G σu2 S2, fun σ' H' hn => ⟨us.length - (i + 1), by omega, rfl, hlt, hn⟩, fun x H' y => ?_⟩
    obtain ⟨e, u, hu, ru⟩ := src.yld H2 i x H' hk hlt y
    subst e
    have ed : us.drop i = u :: us.drop (i + 1) := by
      rw [List.drop_eq_getElem_cons hlt]
      congr 1
      rw [List.getElem?_eq_getElem hlt] at hu
      exact Option.some.inj hu
    rw [ed] at h2
    obtain ⟨_, h2⟩ := h2
    refine ⟨u, σu2, S2, _, ru, re2, so2, h2, fun σu3 S3 σ3 H3 h3 re3 so3 e3 => ?_⟩
    have e13 := (e1.trans e2).trans e3
    refine ⟨σu3, S3, _, re3, so3, h3, fun a b c d h r s e => ⟨a, b, r, s, (e2.trans e3).trans e, h⟩, q2.ext e13, fun a b c d h r s e => q1 a b c d h r s (e13.trans e), fun a b c d h r s e => ⟨a, b, r, s, (e2.trans e3).trans e, h⟩⟩
  · have e : i = us.length := by omega
    subst e
    rw [List.drop_length] at h2
    exact .inl ⟨src.stop H2 _ hk (Nat.le_refl _), q1 _ _ _ _ h2.2 re2 so2 (e1.trans e2)⟩
theorem ws_for {iter : Expr} {body : List Stmt} {w : UW} {g : UG} {ub : US} (hp : PassesOwn (model X.prog X.w) X.A X.env X.xe) (hc : X.calm = true) (hi : PI X tg iter (tWI X.K w)) (hg : PG X tg (tWG X.K g)) (hb : PSs X body (tWS X.K ub))
    (hs : ∀ x, foldedSetIterable iter X.env x = pure x := by intro _; rfl) : PS X (.For tg iter body [] pos) (tWS X.K (uFor w g ub)) := PS.imp (ps_for hp hc hi hg hb hs) fun _ _ _ w => for_imp w

/-! ### list comprehensions -/
/-- a target of names alone, all among vs -/
def TgOk (K : PySem.W.Frag) (gv : TG) (gu : UG) (vs : List Nat) : Prop := ∀ v u σ σu H S P Q, RU K H u v → REnv K H σu σ → SO K H S → gu u σu S P → (∀ σ' σu', P σu' S → REnv K H σu' σ' → L2.wipe σ' vs = L2.wipe σ vs → Q σ' H) → gv v σ H Q
theorem wipe_get {σ : L2.St} : ∀ {vs : List Nat} {j : Nat}, (L2.wipe σ vs)[j]? = if j ∈ vs ∧ j < σ.length then some none else σ[j]?
  | [], j => by simp [L2.wipe]
  | v :: vs, j => by
    unfold L2.wipe
    by_cases h : j = v
    · subst h
      by_cases hl : j < σ.length
      · rw [List.getElem?_set_self (by rw [wipe_length]; exact hl)]
        simp [hl]
      · rw [List.getElem?_eq_none (by rw [List.length_set, wipe_length]; omega), if_neg (by simp [hl]), List.getElem?_eq_none (by omega)]
    · rw [List.getElem?_set_ne (Ne.symm h), wipe_get]
      simp [h]
theorem wipe_set {σ : L2.St} {vs : List Nat} {i : Nat} {x : Option V} (h : i ∈ vs) : L2.wipe (σ.set i x) vs = L2.wipe σ vs := by
  apply List.ext_getElem?
  intro j
  rw [wipe_get, wipe_get, List.length_set]
  by_cases hj : j ∈ vs ∧ j < σ.length
  · rw [if_pos hj, if_pos hj]
  · rw [if_neg hj, if_neg hj]
    by_cases e : i = j
    · subst e
      have hl : ¬ i < σ.length := fun z => hj ⟨h, z⟩
      rw [List.getElem?_eq_none (by rw [List.length_set]; omega), List.getElem?_eq_none (by omega)]
    · rw [List.getElem?_set_ne e]
theorem wipe_wipe {σ : L2.St} {vs : List Nat} : L2.wipe (L2.wipe σ vs) vs = L2.wipe σ vs := by
  apply List.ext_getElem?
  intro j
  rw [wipe_get, wipe_get, wipe_length]
  split <;> simp_all
theorem tg_name {K : PySem.W.Frag} {i : Nat} {vs : List Nat} (h : i ∈ vs) : TgOk K (gName i) (ugName i) vs := fun v u σ σu H S P Q r re so hg q =>
  q _ _ hg (re.set i r) (wipe_set h)
def ugNs (is : List Nat) : UG := fun u σ S P => ∃ us, u = .tup us ∧ us.length = is.length ∧ P ((is.zip us).foldl (fun σ p => σ.set p.1 (some p.2)) σ) S
def gNs : List Nat → TGs
  | [] => gNil
  | i :: r => gCons (gName i) (gNs r)
theorem gNs_ok {K : PySem.W.Frag} {vs : List Nat} : ∀ {is : List Nat} {us : List U} {ws : List V} {σ : L2.St} {σu : Ev} {H : Hp} {S : Sto} {P : Ev → Sto → Prop} {Q : L2.St → Hp → Prop}, (∀ i ∈ is, i ∈ vs) → us.length = is.length → RUs K H us ws → REnv K H σu σ →
    P ((is.zip us).foldl (fun σ p => σ.set p.1 (some p.2)) σu) S → (∀ σ' σu', P σu' S → REnv K H σu' σ' → L2.wipe σ' vs = L2.wipe σ vs → Q σ' H) → gNs is ws σ H Q
  | [], us, ws, σ, σu, H, S, P, Q, _, hl, r, re, h, q => by
    cases us with
    | nil => exact ⟨RUs.nil_eq r, q _ _ h re rfl⟩
    | cons _ _ => cases hl
  | i :: is, us, ws, σ, σu, H, S, P, Q, hv, hl, r, re, h, q => by
    cases us with
    | nil => cases hl
    | cons u us =>
      obtain ⟨w, ws', e, r1, r2⟩ := r
      refine ⟨w, ws', e, ?_⟩
      refine gNs_ok (vs := vs) (S := S) (P := P) (fun j hj => hv j (List.mem_cons_of_mem _ hj)) (by simpa using hl) r2 (re.set i r1) h fun σ' σu' p re' hw => q σ' σu' p re' ?_
      rw [hw, wipe_set (hv i (List.mem_cons_self))]
theorem tg_names {K : PySem.W.Frag} {is : List Nat} {vs : List Nat} {n : Nat} (h : ∀ i ∈ is, i ∈ vs) (hn : n = is.length) : TgOk K (gTup K n (gNs is)) (ugNs is) vs := fun v u σ σu H S P Q r re so hg q => by
  obtain ⟨us, eu, hl, hp⟩ := hg
  subst eu
  obtain ⟨p, ws, ev, sq, rr⟩ := r
  exact ⟨p, ws, ev, sq, by rw [← rr.length, hl, hn], gNs_ok (S := S) (P := P) h hl rr re hp q⟩
def uLcT (g : UG) (t : UT) (e : UE) (keep : Sto → Prop) (σ : Ev) : List U → List U → Sto → (List U → Sto → Prop) → Prop
  | [], acc, S, P => keep S ∧ P acc S
  | x :: r, acc, S, P => keep S ∧ g x σ S fun σ1 S1 => t σ1 S1 fun k S2 => if k = true then e σ1 S2 fun u S3 => uLcT g t e keep σ r (acc ++ [u]) S3 P else uLcT g t e keep σ r acc S2 P
def uLc (w : UW) (g : UG) (t : UT) (e : UE) (vs : List Nat) : UL := fun σ S P => w σ S fun us keep S1 => us.length ≤ sizeLine ∧ uLcT g t e keep (uwipe σ vs) us [] S1 P
def uYes : UT := fun _ S P => P true S
theorem uLcT_keep {g : UG} {t : UT} {e : UE} {keep : Sto → Prop} {σ : Ev} {us acc : List U} {S : Sto} {P : List U → Sto → Prop} (h : uLcT g t e keep σ us acc S P) : keep S := by
  cases us with
  | nil => exact h.1
  | cons x r => exact h.1
theorem lc_imp {K : PySem.W.Frag} {w : UW} {gv : TG} {g : UG} {t : UT} {ue : UE} {vs : List Nat} {σ : L2.St} {H : Hp} {Q : VK} (tk : TgOk K gv g vs) (h : tWF K (uLc w g t ue vs) σ H Q) : tLc (tWI K w) gv (tWT K t) (tW K ue) vs σ H Q := by
  obtain ⟨σu, S, P, re, so, h, q⟩ := h
  refine ⟨σu, S, _, re, so, h, fun us keep S1 H1 J ok ⟨hz, h1⟩ so1 e1 src okk Dl hD => ?_⟩
  have hDw : ¬ Wr S1 Dl := so1.free hD
  refine ⟨fun i m H2 => m = us.length - i ∧ i ≤ us.length ∧ ∃ S2 acc ws, acc.length ≤ i ∧ H2 Dl = some (.lst ws) ∧ ¬ Wr S2 Dl ∧ RUs K H2 acc ws ∧ SO K H2 S2 ∧ Ext S1 H1 S2 H2 ∧ uLcT g t ue keep (uwipe σu vs) (us.drop i) acc S2 P, ⟨us.length, by simp, Nat.zero_le _, S1, [], [], Nat.le_refl _, upd_same, hDw, rfl, so1.new hD, Ext.new hD hDw, h1⟩, ?_⟩
  rintro i m H2 ⟨rfl, hi, S2, acc, ws, hacc, hD2, hw2, ra, so2, e2, h2⟩
  have hk : ok H2 := okk S2 H2 so2 e2 (uLcT_keep h2)
  have re2 : REnv K H2 (uwipe σu vs) (L2.wipe σ vs) := ((re.ext so e1).ext so1 e2).wipe vs
  by_cases hlt : i < us.length
  · refine .inr ⟨src.go H2 i hk hlt, fun H' => ∃ S2 acc ws, acc.length ≤ i + 1 ∧ H' Dl = some (.lst ws) ∧ ¬ Wr S2 Dl ∧ RUs K H' acc ws ∧ SO K H' S2 ∧ Ext S1 H1 S2 H' ∧ uLcT g t ue keep (uwipe σu vs) (us.drop (i + 1)) acc S2 P, fun H' hn => ⟨us.length - (i + 1), by omega, rfl, hlt, hn⟩, fun x H' y => ?_⟩
    obtain ⟨e, u, hu, ru⟩ := src.yld H2 i x H' hk hlt y
    subst e
    have ed : us.drop i = u :: us.drop (i + 1) := by
      rw [List.drop_eq_getElem_cons hlt]
      congr 1
      rw [List.getElem?_eq_getElem hlt] at hu
      exact Option.some.inj hu
    rw [ed] at h2
    obtain ⟨_, h2⟩ := h2
    refine tk x u _ _ _ S2 _ _ ru re2 so2 h2 fun σ3 σu3 h3 re3 hw => ⟨by rw [hw]; exact wipe_wipe, ?_⟩
    refine ⟨σu3, S2, _, re3, so2, h3, fun k S3 H3 h3 so3 e3 => ?_⟩
    have hD3 : H3 Dl = some (.lst ws) := e3.keep _ _ hD2 hw2
    have hw3 : ¬ Wr S3 Dl := fun z => by
      rcases e3.dom _ z with z | z
      · exact hw2 z
      · rw [hD2] at z; cases z
    cases k with
    | true =>
      simp only [if_true] at h3 ⊢
      refine ⟨σu3, S3, _, re3.ext so2 e3, so3, h3, fun u4 S4 v4 H4 h4 r4 so4 e4 => ?_⟩
      have hD4 : H4 Dl = some (.lst ws) := e4.keep _ _ hD3 hw3
      have hw4 : ¬ Wr S4 Dl := fun z => by
        rcases e4.dom _ z with z | z
        · exact hw3 z
        · rw [hD3] at z; cases z
      have ra4 : RUs K H4 acc ws := e4.rus so3 (e3.rus so2 ra)
      have m5 : ∀ (b : Addr) (o : HO), b ≠ Dl → H4 b = some o → upd H4 Dl (.lst (ws ++ [v4])) b = some o := fun b o hb e => by rw [upd_ne hb]; exact e
      have e5 : Ext S4 H4 S4 (upd H4 Dl (.lst (ws ++ [v4]))) → True := fun _ => trivial
      -- what is known stays when the own list grows
      have sqm : ∀ b xs, SqT K H4 b xs → SqT K (upd H4 Dl (.lst (ws ++ [v4]))) b xs := fun b xs sq => by
        rcases sq with (sq | ⟨o, sq⟩) | sq
        · exact .inl (.inl (m5 b _ (fun z => by rw [z, hD4] at sq; cases sq) sq))
        · exact .inl (.inr ⟨o, m5 b _ (fun z => by rw [z, hD4] at sq; cases sq) sq⟩)
        · exact .inr sq
      have frm : ∀ b xs, FrzL K H4 b xs → FrzL K (upd H4 Dl (.lst (ws ++ [v4]))) b xs := fun b xs sq => by
        rcases sq with ⟨o, sq⟩ | sq
        · exact .inl ⟨o, m5 b _ (fun z => by rw [z, hD4] at sq; cases sq) sq⟩
        · exact .inr sq
      have xm : ∀ b φ, H4 b = some (.ext φ) → upd H4 Dl (.lst (ws ++ [v4])) b = some (.ext φ) := fun b φ sq => m5 b _ (fun z => by rw [z, hD4] at sq; cases sq) sq
      have so5 : SO K (upd H4 Dl (.lst (ws ++ [v4]))) S4 := fun b o hb => by
        have hne : b ≠ Dl := fun z => hw4 ⟨o, z ▸ hb⟩
        have r' := so4 b o hb
        cases o with
        | lst us => obtain ⟨vs', h1', r1'⟩ := r'; exact ⟨vs', m5 b _ hne h1', RUs.mono sqm frm xm _ _ r1'⟩
        | dct us => obtain ⟨vs', h1', r1'⟩ := r'; exact ⟨vs', m5 b _ hne h1', RKs.mono sqm frm xm _ _ r1'⟩
      have e14 := (e2.trans e3).trans e4
      refine ⟨ws, hD4, by have := ra.length; omega, S4, acc ++ [u4], _, by simp; omega, upd_same, hw4, RUs.append (RUs.mono sqm frm xm _ _ ra4) (RUs.one (RU.mono sqm frm xm _ _ r4)), so5, ⟨fun b o hb hn => ?_, e14.dom, fun b hb => ?_⟩, h4⟩
      · exact m5 b o (fun z => by rw [z, hD] at hb; cases hb) (e14.keep b o hb hn)
      · by_cases z : b = Dl
        · rw [z, upd_same] at hb; cases hb
        · rw [upd_ne z] at hb; exact e14.live b hb
    | false =>
      simp only [Bool.false_eq_true, if_false] at h3 ⊢
      exact ⟨S3, acc, ws, by omega, hD3, hw3, e3.rus so2 ra, so3, e2.trans e3, h3⟩
  · have e : i = us.length := by omega
    subst e
    rw [List.drop_length] at h2
    have hDn : H Dl = none := e1.live _ hD
    exact .inl ⟨src.stop H2 _ hk (Nat.le_refl _), q acc S2 Dl ws H2 h2.2 hDn hw2 hD2 ra so2 (e1.trans e2)⟩
end
end Y

set_option Elab.async false
set_option linter.all false
set_option maxRecDepth 100000
set_option maxHeartbeats 2000000
namespace Y
open PySem L2 PySem.Spec PyProof.Rows

section
variable {X : Cx} {pos p2 spos : Pos} {a b c e : Expr} {ua ub uc : UE} {es : List Expr} {tg : Expr}

/-! ### list comprehensions, at their places -/
theorem w_lc {elt tg iter : Expr} {ifs : List Expr} {scope : Scope} {own : List (Str × Nat)} {w : UW} {gv : TG} {g : UG} {t : UT} {ue : UE} (hc : X.calm = true) (hN : X.N.Nodup) (hi : PI X tg iter (tWI X.K w)) (ok : BlkOk X.N X.env.scope scope own) (tk : TgOk X.K gv g (own.map (·.2)))
    (hg : ∀ (s : Shared) (H : Hp) (C : Addr) (cl : List (Str × Addr)) (fp : List Addr), PG (X.blk s H scope (compEnvC scope cl C X.env) fp) tg gv) (ht : ∀ (s : Shared) (H : Hp) (C : Addr) (cl : List (Str × Addr)) (fp : List Addr), PTs (X.blk s H scope (compEnvC scope cl C X.env) fp) ifs (tWT X.K t))
    (he : ∀ (s : Shared) (H : Hp) (C : Addr) (cl : List (Str × Addr)) (fp : List Addr), PE (X.blk s H scope (compEnvC scope cl C X.env) fp) elt (tW X.K ue)) (hs : ∀ x, foldedSetIterable iter X.env x = pure x := by intro _; rfl) :
    PE X (.ListComp elt [⟨tg, iter, ifs, 0⟩] scope pos) (tWF X.K (uLc w g t ue (own.map (·.2)))) := PE.imp (pe_lc hc hN hi ok hg ht he hs) fun _ _ _ w => lc_imp tk w
theorem ws_setLc {i : Nat} {y : Str} {py : Pos} {elt tg iter : Expr} {ifs : List Expr} {scope : Scope} {own : List (Str × Nat)} {w : UW} {gv : TG} {g : UG} {t : UT} {ue : UE} (hc : X.calm = true) (hN : X.N.Nodup) (hy : X.N[i]? = some y) (hyl : X.env.scope.names.lookup y = some .local)
    (hsw : swapsWith (.ListComp elt [⟨tg, iter, ifs, 0⟩] scope pos) (some (.Name y py)) spos.line X.env = pure true) (hi : PI X tg iter (tWI X.K w)) (ok : BlkOk X.N X.env.scope scope own) (tk : TgOk X.K gv g (own.map (·.2)))
    (hg : ∀ (s : Shared) (H : Hp) (C : Addr) (cl : List (Str × Addr)) (fp : List Addr), PG (X.blk s H scope (compEnvC scope cl C X.env) fp) tg gv) (ht : ∀ (s : Shared) (H : Hp) (C : Addr) (cl : List (Str × Addr)) (fp : List Addr), PTs (X.blk s H scope (compEnvC scope cl C X.env) fp) ifs (tWT X.K t))
    (he : ∀ (s : Shared) (H : Hp) (C : Addr) (cl : List (Str × Addr)) (fp : List Addr), PE (X.blk s H scope (compEnvC scope cl C X.env) fp) elt (tW X.K ue)) (hs : ∀ x, foldedSetIterable iter X.env x = pure x := by intro _; rfl) :
    PS X (.Assign [.Name y py] (.ListComp elt [⟨tg, iter, ifs, 0⟩] scope pos) spos) (tWS X.K (uAsg (uNew (uLc w g t ue (own.map (·.2)))) (ugName i))) := PS.imp (ps_setLc hc hN hy hyl hsw hi ok hg ht he hs) fun D σ H w => by
  obtain ⟨σu, S, G, re, so, h, q1, _, _, _⟩ := w
  refine lc_imp tk ⟨σu, S, _, re, so, h, fun xs S1 p vs H1 h1 hn nw hp rx so1 e1 => ?_⟩
  have hS : S1 p = none := by
    cases e : S1 p with
    | none => rfl
    | some o => exact absurd ⟨_, e⟩ nw
  have so2 : SO X.K H1 (sput S1 p (.lst xs)) := fun a o e => by
    by_cases z : a = p
    · subst z
      rw [sput_same] at e
      cases e
      exact ⟨vs, hp, rx⟩
    · rw [sput_ne z] at e
      exact so1 a o e
  refine q1 _ _ _ H1 (h1 p hS) ((re.ext so e1).set i (show RU X.K H1 (.loc p) (.ref p) from rfl)) so2 ⟨e1.keep, fun a w => ?_, e1.live⟩
  by_cases z : a = p
  · rw [z]; exact .inr hn
  · obtain ⟨o, e⟩ := w
    rw [sput_ne z] at e
    exact e1.dom a ⟨o, e⟩
theorem wt_nil : PTs X [] (tWT X.K uYes) := ⟨fun pins s σ H Q I w => by
  obtain ⟨σu, S, P, re, so, h, q⟩ := w
  exact pts_nil.run pins s σ H Q I (q _ S H h so (Ext.refl S H))⟩
theorem wt_one {ut : UT} (h : PT X c (tWT X.K ut)) : PTs X [c] (tWT X.K ut) := pts_one h

/-! ### methods of lists -/
theorem ty_list {K : PySem.W.Frag} {H : Hp} {l : Addr} {xs : List V} (h : H l = some (.lst xs)) : tyV K "list" (.ref l) H := .inl ⟨rfl, xs, .inl (.inl h)⟩
/-- l.append(e) -/
def uApp (o a : UE) : UE := fun σ S P => o σ S fun x S1 => ∃ l ys, x = .loc l ∧ S1 l = some (.lst ys) ∧ a σ S1 fun u S2 => ∃ xs, S2 l = some (.lst xs) ∧ xs.length < sizeLine ∧ P .non (sput S2 l (.lst (xs ++ [u])))
/-- behind a list's change -/
theorem lst_wrt {K : PySem.W.Frag} {S : Sto} {H : Hp} {l : Addr} {xs : List U} {vs : List V} (so : SO K H S) (hS : S l = some (.lst xs)) (hH : H l = some (.lst vs)) {ys : List U} {ws : List V} (r : RUs K H ys ws) :
    Ext S H (sput S l (.lst ys)) (upd H l (.lst ws)) ∧ SO K (upd H l (.lst ws)) (sput S l (.lst ys)) := by
  have hne : H l ≠ none := by rw [hH]; exact fun z => nomatch z
  have e4 : Ext S H (sput S l (.lst ys)) (upd H l (.lst ws)) := Ext.wrt ⟨_, hS⟩ hne
  exact ⟨e4, so.wrt ⟨_, hS⟩ hne ⟨_, upd_same, e4.rus so r⟩⟩
theorem w_app {o : Expr} {uo : UE} {apos cpos : Pos} (ho : PE X o (tW X.K uo)) (ha : PE X a (tW X.K ua))
    (hh : ∀ {to : TE} {t : TA}, PE X o to → PA X [a] t → PE X (.Call (.Attribute o "append" apos) [a] [] cpos) (tBM X.K "list" rAppend to t)) (hs : starEach [a] X.env = (false, eval a X.env) :: starEach [] X.env := by rfl) : PE X (.Call (.Attribute o "append" apos) [a] [] cpos) (tW X.K (uApp uo ua)) :=
  PE.imp (hh ho (pa_cons ha pa_nil hs)) fun σ H Q w => by
    obtain ⟨σu, S, P, re, so, h, q⟩ := w
    refine ⟨σu, S, _, re, so, h, fun x S1 v H1 ⟨l, ys, ex, hS1, h1⟩ rx so1 e1 => ?_⟩
    subst ex
    obtain ⟨vs1, hH1, _⟩ := so1 l _ hS1
    rw [show v = .ref l from rx]
    refine ⟨ty_list hH1, σu, S1, _, re.ext so e1, so1, h1, fun u S2 w H2 ⟨xs, hS2, hz, h2⟩ ru so2 e2 => ?_⟩
    obtain ⟨vs2, hH2, r2⟩ := so2 l _ hS2
    obtain ⟨e3, so3⟩ := lst_wrt so2 hS2 hH2 (RUs.append r2 (RUs.one ru))
    exact ⟨l, vs2, w, rfl, rfl, hH2, by rw [← r2.length]; exact hz, q _ _ _ _ h2 rfl so3 ((e1.trans e2).trans e3)⟩
/-- l.extend(a new list) -/
def uExtF (o : UE) (m : UL) : UE := fun σ S P => o σ S fun x S1 => ∃ l ys, x = .loc l ∧ S1 l = some (.lst ys) ∧ m σ S1 fun us S2 => ∃ xs, S2 l = some (.lst xs) ∧ xs.length + us.length ≤ sizeLine ∧ P .non (sput S2 l (.lst (xs ++ us)))
theorem w_extF {o : Expr} {uo : UE} {m : UL} {apos cpos : Pos} (ho : PE X o (tW X.K uo)) (ha : PE X a (tWF X.K m))
    (hh : ∀ {to : TE} {t : TA}, PE X o to → PA X [a] t → PE X (.Call (.Attribute o "extend" apos) [a] [] cpos) (tBM X.K "list" rExtend to t)) (hs : starEach [a] X.env = (false, eval a X.env) :: starEach [] X.env := by rfl) : PE X (.Call (.Attribute o "extend" apos) [a] [] cpos) (tW X.K (uExtF uo m)) :=
  PE.imp (hh ho (pa_cons ha pa_nil hs)) fun σ H Q w => by
    obtain ⟨σu, S, P, re, so, h, q⟩ := w
    refine ⟨σu, S, _, re, so, h, fun x S1 v H1 ⟨l, ys, ex, hS1, h1⟩ rx so1 e1 => ?_⟩
    subst ex
    obtain ⟨vs1, hH1, _⟩ := so1 l _ hS1
    rw [show v = .ref l from rx]
    refine ⟨ty_list hH1, σu, S1, _, re.ext so e1, so1, h1, fun us S2 p ws H2 ⟨xs, hS2, hz, h2⟩ hn nw hp ru so2 e2 => ?_⟩
    obtain ⟨vs2, hH2, r2⟩ := so2 l _ hS2
    obtain ⟨e3, so3⟩ := lst_wrt so2 hS2 hH2 (RUs.append r2 ru)
    exact ⟨l, p, vs2, ws, rfl, rfl, hH2, hp, by rw [← r2.length, ← ru.length]; exact hz, q _ _ _ _ h2 rfl so3 ((e1.trans e2).trans e3)⟩
/-- l.insert(i, e) -/
def uIns (o i a : UE) : UE := fun σ S P => o σ S fun x S1 => ∃ l ys, x = .loc l ∧ S1 l = some (.lst ys) ∧ i σ S1 fun y S2 => a σ S2 fun u S3 => ∃ k xs, y = .int k ∧ 0 ≤ k ∧ k < 2 ^ 63 ∧ S3 l = some (.lst xs) ∧ xs.length < sizeLine ∧ P .non (sput S3 l (.lst (xs.take k.toNat ++ [u] ++ xs.drop k.toNat)))
abbrev rIns : V → List V → Hp → VK → Prop := fun x vs H Q => ∃ (l : Addr) (xs : List V) (i : Int) (y : V), x = .ref l ∧ vs = [.int i, y] ∧ H l = some (.lst xs) ∧ xs.length < sizeLine ∧ 0 ≤ i ∧ i < 2 ^ 63 ∧
    Q .non (upd H l (.lst (xs.take i.toNat ++ [y] ++ xs.drop i.toNat)))
theorem w_ins {o i : Expr} {uo ui : UE} {apos cpos : Pos} (ho : PE X o (tW X.K uo)) (hi : PE X i (tW X.K ui)) (ha : PE X a (tW X.K ua))
    (hh : ∀ {to : TE} {t : TA}, PE X o to → PA X [i, a] t → PE X (.Call (.Attribute o "insert" apos) [i, a] [] cpos) (tBM X.K "list" rIns to t)) (hs : starEach [a] X.env = (false, eval a X.env) :: starEach [] X.env := by rfl) (hs2 : starEach [i, a] X.env = (false, eval i X.env) :: starEach [a] X.env := by rfl) : PE X (.Call (.Attribute o "insert" apos) [i, a] [] cpos) (tW X.K (uIns uo ui ua)) :=
  PE.imp (hh ho (pa_cons hi (pa_cons ha pa_nil hs) hs2)) fun σ H Q w => by
    obtain ⟨σu, S, P, re, so, h, q⟩ := w
    refine ⟨σu, S, _, re, so, h, fun x S1 v H1 ⟨l, ys, ex, hS1, h1⟩ rx so1 e1 => ?_⟩
    subst ex
    obtain ⟨vs1, hH1, _⟩ := so1 l _ hS1
    rw [show v = .ref l from rx]
    refine ⟨ty_list hH1, σu, S1, _, re.ext so e1, so1, h1, fun y S2 wy H2 h2 ry so2 e2 => ?_⟩
    refine ⟨σu, S2, _, (re.ext so e1).ext so1 e2, so2, h2, fun u S3 w H3 ⟨k, xs, ey, h0, h1, hS3, hz, h3⟩ ru so3 e3 => ?_⟩
    subst ey
    obtain ⟨vs3, hH3, r3⟩ := so3 l _ hS3
    obtain ⟨e4, so4⟩ := lst_wrt so3 hS3 hH3 (RUs.append (RUs.append (RUs.take k.toNat r3) (RUs.one ru)) (RUs.drop k.toNat r3))
    exact ⟨l, vs3, k, w, rfl, by rw [show wy = .int k from ry], hH3, by rw [← r3.length]; exact hz, h0, h1, q _ _ _ _ h3 rfl so4 (((e1.trans e2).trans e3).trans e4)⟩

/-! ### xs[i] += e, of ints -/
def uAugL (o i e : UE) : US := fun D σ S => o σ S fun x S1 => i σ S1 fun y S2 => ∃ l k xs n, x = .loc l ∧ y = .int k ∧ S2 l = some (.lst xs) ∧ atI xs k = some (.int n) ∧ e σ S2 fun z S3 => ∃ m zs j, z = .int m ∧ S3 l = some (.lst zs) ∧ ixN zs.length k = some j ∧ D.nx σ (sput S3 l (.lst (zs.set j (.int (n + m)))))
/-- o[i], by values -/
def rGetL : V → V → Hp → VK → Prop := fun o i H Q => ∃ l k xs v, o = .ref l ∧ i = .int k ∧ H l = some (.lst xs) ∧ atI xs k = some v ∧ Q v H
theorem get_listL : PGet X rGetL := by
  intro pins s σ H o i ov iv Q I ro ri h
  obtain ⟨l, k, xs, v, rfl, rfl, hH, ha, q⟩ := h
  cases ro
  obtain ⟨t, rfl⟩ := ri
  obtain ⟨its, r, pl, hz⟩ := I.list (.inl (.inl hH))
  obtain ⟨j, h1, h2, h3, h4, h5⟩ := atI_get ha
  obtain ⟨w, ew, rw'⟩ := r.get h2
  have hl := r.length
  have hn := line63
  have fin : EP X pins σ Q w s := ⟨v, H, I, rw', q⟩
  by_cases h0 : 0 ≤ k
  · have hj : k.toNat = j := by
      rw [seqIndex_of h0 h5] at h1
      exact Option.some.inj h1
    exact wpAny_getItem_list pl.isList h0 (by omega) (by rw [hj]; simpa using ew) fin
  · have hj : (k + (its.toArray.size : Int)).toNat = j := by
      rw [seqIndex_neg (by omega) h4] at h1
      rw [List.size_toArray, ← hl]
      exact Option.some.inj h1
    exact wpAny_getItem_list_neg pl.isList (by omega) (by rw [List.size_toArray] <;> omega) (by omega) (by rw [hj]; simpa using ew) fin
def rAddI : TIp := fun x y H Q => ∃ i j, x = .int i ∧ y = .int j ∧ Q (.int (i + j)) H
theorem pip_add : PIp X .Add rAddI := by
  rintro pins s σ H x y v u Q I rx ry ⟨i, j, rfl, rfl, q⟩
  obtain ⟨t, rfl⟩ := rx
  obtain ⟨t', rfl⟩ := ry
  exact iadd_int ⟨.int (i + j), H, I.tok _, ⟨_, rfl⟩, q⟩
theorem ws_augL {o i e : Expr} {uo ui : UE} {p' : Pos} (ho : PE X o (tW X.K uo)) (hi : PE X i (tW X.K ui)) (he : PE X e (tW X.K ua))
    (haug : ∀ ov iv new, augStore i ov iv new = (do holding [new, ov, iv] (setItem ov iv new); release [new, ov, iv] []; pure .next) := by intros; rfl) : PS X (.AugAssign (.Subscript o i p') .Add e pos) (tWS X.K (uAugL uo ui ua)) :=
  PS.imp (ps_augS ho hi get_listL he pip_add set_list haug) fun D σ H w => by
    obtain ⟨σu, S, G, re, so, h, q1, _, _, _⟩ := w
    refine ⟨σu, S, _, re, so, h, fun x S1 v H1 h1 rx so1 e1 => ?_⟩
    refine ⟨σu, S1, _, re.ext so e1, so1, h1, fun y S2 vy H2 ⟨l, k, xs, n, ex, ey, hS, ha, h2⟩ ry so2 e2 => ?_⟩
    subst ex ey
    obtain ⟨vs, hH, r⟩ := so2 l _ hS
    obtain ⟨z, hz, rz⟩ := r.atI ha
    refine ⟨l, k, vs, z, rx, ry, hH, hz, ?_⟩
    rw [show z = .int n from rz]
    refine ⟨σu, S2, _, (re.ext so e1).ext so1 e2, so2, h2, fun z S3 vz H3 ⟨m, zs, j, ez, hS3, hj, h3⟩ rz so3 e3 => ?_⟩
    subst ez
    obtain ⟨ws, hH3, r3⟩ := so3 l _ hS3
    obtain ⟨e4, so4⟩ := lst_wrt so3 hS3 hH3 (RUs.set (show RU X.K H3 (.int (n + m)) (.int (n + m)) from rfl) j r3)
    refine ⟨n, m, rfl, rz, l, ws, k, j, rx, ry, hH3, by rw [← r3.length]; exact hj, ?_⟩
    exact q1 _ _ _ _ h3 ((((re.ext so e1).ext so1 e2).ext so2 e3).ext so3 e4) so4 (((e1.trans e2).trans e3).trans e4)

/-! ### defs -/
/-- a contract: the arguments, the store, what is wanted behind -/
abbrev Con := List U → Sto → UK → Prop
def spU (K : PySem.W.Frag) (Φ : Con) : Sp := fun vs H Q _ => ∃ us S P, RUs K H us vs ∧ SO K H S ∧ Φ us S P ∧ Post K S H P Q
theorem w_call {CX : CXT} {k : Nat} {f : Addr} {fd : FuncData} {ps : List Str} {x : Str} {p : Pos} {Φ : Con} {t : UL} {E : XK} (F : FnOk X.prog X.w X.K X.mg X.base CX k f fd ps (spU X.K Φ)) (hr : Room k X.A) (hg : Gl X x) (hm : X.mg x = some (.ref f)) (hk : PySem.W.keepIn X.K (.ref f) = true) (hb : Binds X.K fd ps []) (hx : Passes CX X E)
    (ha : PA X (e :: es) (tWA X.K t)) (hdb : (x == ("__debug__" : Str)) = false := by decide) (he : starEach (e :: es) X.env = (false, eval e X.env) :: starEach es X.env := by rfl) (hpl : (backTo pos (starEach es X.env)).any (·.1) = false := by rfl) :
    PE X (.Call (.Name x p) (e :: es) [] pos) (tW X.K (uCall Φ t)) := PE.imp (pe_call F hr hg hm hk hb .nil hx ha hdb he hpl) fun σ H Q w => by
  obtain ⟨σu, S, P, re, so, h, q⟩ := w
  refine ⟨σu, S, _, re, so, h, fun xs S1 vs H1 h1 rx so1 e1 => ?_⟩
  show spU X.K Φ (vs ++ []) H1 Q E
  rw [List.append_nil]
  exact ⟨xs, S1, P, rx, so1, h1, q.ext e1⟩
theorem w_call0 {CX : CXT} {k : Nat} {f : Addr} {fd : FuncData} {ps : List Str} {x : Str} {p : Pos} {Φ : Con} {E : XK} (F : FnOk X.prog X.w X.K X.mg X.base CX k f fd ps (spU X.K Φ)) (hr : Room k X.A) (hg : Gl X x) (hm : X.mg x = some (.ref f)) (hk : PySem.W.keepIn X.K (.ref f) = true) (hb : Binds X.K fd ps []) (hx : Passes CX X E)
    (hdb : (x == ("__debug__" : Str)) = false := by decide) : PE X (.Call (.Name x p) [] [] pos) (tW X.K (uCall Φ uNil)) := PE.imp (pe_call0 F hr hg hm hk hb .nil hx hdb) fun σ H Q w => by
  obtain ⟨σu, S, P, re, so, h, q⟩ := w
  exact ⟨[], S, P, rfl, so, h, q⟩
def ustart (n : Nat) (us : List U) : Ev := us.map some ++ List.replicate (n - us.length) none
theorem start_ok {K : PySem.W.Frag} {H : Hp} {N : List Str} {us : List U} {vs : List V} (r : RUs K H us vs) : REnv K H (ustart N.length us) (L2.start N vs) := by
  have hl := r.length
  refine ⟨by unfold ustart L2.start; simp [hl], fun i u h => ?_⟩
  unfold ustart at h
  unfold L2.start
  rw [List.getElem?_append] at h ⊢
  rw [List.length_map] at h ⊢
  by_cases hi : i < us.length
  · rw [if_pos hi, List.getElem?_map] at h
    cases e : us[i]? with
    | none => rw [e] at h; cases h
    | some u' =>
      rw [e] at h
      have e' : u' = u := Option.some.inj (Option.some.inj h)
      subst e'
      obtain ⟨v, h1, h2⟩ := r.get e
      exact ⟨v, by rw [if_pos (by omega), List.getElem?_map, h1]; rfl, h2⟩
  · rw [if_neg hi, List.getElem?_replicate] at h
    split at h <;> cases h
end
section
variable {P : Program} {w : World} {K : PySem.W.Frag} {mg : Str → Option Value} {base : Heap}
/-- THE RULE for a def: its body as a term of ours, and what it must show of that term -/
theorem fn_okU {x qual : Str} {st : Stmt} {f : Addr} {fd : FuncData} {N ps : List Str} {k : Nat} {Φ : Con} {ub : US} (F : Fun K x qual st f fd) (Sc : FnScope N ps (defScope st)) (len : ∀ us S P, Φ us S P → us.length = ps.length)
    (hder : ∀ (cdv : Value) (A : Around) (outer : List Env) (s : Shared) (H : Hp) (E : XK), Room k (A.deeper (envOfC qual (defScope st) s.heap.objs.size f cdv)) → PSs (cxOf CX0 P w K mg base N qual (defScope st) f cdv A outer s H E).nox (defBody st) (tWS K ub))
    (hvc : ∀ us S P, Φ us S P → ub ⟨fun _ S' => P .non S', P, fun _ _ => False, fun _ _ => False⟩ (ustart N.length us) S) : FnOk P w K mg base CX0 (k + 1) f fd ps (spU K Φ) := by
  refine F.ok Sc (fun vs H Q E h => ?_) (fun cdv A outer s H vs Q E hr h => ?_)
  · obtain ⟨us, S, P, r, _, h, _⟩ := h
    rw [← r.length]
    exact len us S P h
  · obtain ⟨us, S, P', r, so, h, q⟩ := h
    refine ⟨_, hder cdv A outer s H E hr, _, S, _, start_ok r, so, hvc us S P' h, fun σu' S' σ' H' hn _ so' e' => q _ S' _ H' hn rfl so' e', q, fun _ _ _ _ z => z.elim, fun _ _ _ _ z => z.elim⟩
end
end Y

set_option Elab.async false
set_option linter.all false
set_option maxRecDepth 100000
set_option maxHeartbeats 2000000
namespace Y
open PySem L2 PySem.Spec PyProof.Rows

/-! ### defs that may ask for a repr: nothing is being shown around them -/
structure FnG (P : Program) (w : World) (K : PySem.W.Frag) (mg : Str → Option Value) (base : Heap) (k : Nat) (f : Addr) (fd : FuncData) (ps : List Str) (sp : Sp) : Prop where
  many : ∀ vs H Q E, sp vs H Q E → vs.length = ps.length
  does : ∀ (A : Around) (fr : List Env) (s : Shared) (H : Hp) (as : Args) (us : List Value) (vs : List V) (Q : VK) (E : XK), A.guards = some [] → Room k A → Env0 P w K mg base A fr s H →
    BindsTo s fd as (ps.zip us) → Vals vs us → sp vs H Q E → codeAny (model P w) A (.call (.ref f) as) (CR CX0 fr P w H s Q E) s
theorem FnG.up {P : Program} {w : World} {K : PySem.W.Frag} {mg : Str → Option Value} {base : Heap} {j k : Nat} {f : Addr} {fd : FuncData} {ps : List Str} {sp : Sp} (F : FnG P w K mg base j f fd ps sp) (h : j ≤ k) : FnG P w K mg base k f fd ps sp :=
  ⟨F.many, fun A fr s H as us vs Q E hg hr => F.does A fr s H as us vs Q E hg (hr.mono h)⟩
theorem FnG.weak {P : Program} {w : World} {K : PySem.W.Frag} {mg : Str → Option Value} {base : Heap} {k : Nat} {f : Addr} {fd : FuncData} {ps : List Str} {Φ Ψ : Con} (F : FnG P w K mg base k f fd ps (spU K Φ)) (h : ∀ us S P, Ψ us S P → Φ us S P) : FnG P w K mg base k f fd ps (spU K Ψ) :=
  ⟨fun vs H Q E ⟨us, S, P, r, so, p, q⟩ => F.many vs H Q E ⟨us, S, P, r, so, h _ _ _ p, q⟩, fun A fr s H as us vs Q E hg hr e0 hb hv ⟨us', S, P, r, so, p, q⟩ => F.does A fr s H as us vs Q E hg hr e0 hb hv ⟨us', S, P, r, so, h _ _ _ p, q⟩⟩
/-- what stands around a def's body -/
theorem deeper_guards {A : Around} {env : Env} (h : A.guards = some []) : (A.deeper env).guards = some [] := by
  first | exact h | (unfold Around.deeper; exact h) | simpa [Around.deeper] using h
section
variable {P : Program} {w : World} {K : PySem.W.Frag} {mg : Str → Option Value} {base : Heap}
theorem fnG_mk {x qual : Str} {st : Stmt} {f : Addr} {fd : FuncData} {N ps : List Str} {k : Nat} {sp : Sp} (F : Fun K x qual st f fd) (Sc : FnScope N ps (defScope st)) (len : ∀ vs H Q E, sp vs H Q E → vs.length = ps.length)
    (hb : ∀ (cdv : Value) (A : Around) (fr : List Env) (s : Shared) (H : Hp) (vs : List V) (Q : VK) (E : XK), (A.deeper (envOfC qual (defScope st) s.heap.objs.size f cdv)).guards = some [] → Room k (A.deeper (envOfC qual (defScope st) s.heap.objs.size f cdv)) → sp vs H Q E →
      ∃ t, PSs (cxOf CX0 P w K mg base N qual (defScope st) f cdv A fr s H E).nox (defBody st) t ∧ t { nx := fun _ H' => Q .non H', rt := Q } (L2.start N vs) H) : FnG P w K mg base (k + 1) f fd ps sp := by
  obtain ⟨oc, od, kV, doc, pm, an, cdv, ct, osl, rfl, lk, hcd⟩ := F.ex
  refine ⟨len, fun A fr s H as us vs Q E hg hr e0 hbi hv hsp => ?_⟩
  have hlen := len _ _ _ _ hsp
  have kin : K.In s.heap := e0.mod.kin.keeps fun b o e => (e0.bs b o e).1
  have nol : s.heap.NoLimit := e0.mod.nolimit.keeps fun b o e => (e0.bs b o e).1
  refine codeAny_call_function hr.depth (kin _ _ lk) rfl Sc.co Sc.gen rfl (PySem.W.codeRec_of kin hcd) (hbi _ _ _ _ ?_)
  refine wpAny_newFunctionEnv_cells Sc.kind (fun y hy => ?_) fun env he s1 z => ?_
  · rcases Sc.par y.1 (List.of_mem_zip (show (y.1, y.2) ∈ ps.zip us from hy)).1 with q | q
    · exact Or.inl q
    · exact Or.inr ⟨q, PySem.W.cellsFrom_some _ _ _ (.inl q)⟩
  · subst he
    obtain ⟨t, hder, hread⟩ := hb cdv A fr s H vs Q E (deeper_guards hg) (hr.deeper _) hsp
    refine ⟨nol.keeps z.toInCall.keep, codeAny_func ?_⟩
    have J : Inv (cxOf CX0 P w K mg base N qual (defScope st) f cdv A fr s H E) [] (L2.start N vs) H s1 := inv_start Sc hr.hd e0 hlen hv z
    refine wpAny_mono (hder.nox.run [] s1 _ H _ J hread) (fun fl s' hfl => ?_) fun e s' he => he
    match fl, hfl with
    | .ret u, ⟨v, σ', H', J', rv, q⟩ => exact ⟨v, H', J'.os, J'.bare, J'.base, J'.hok, rv, q⟩
    | .next, ⟨σ', H', J', q⟩ => exact ⟨V.non, H', J'.os, J'.bare, J'.base, J'.hok, rfl, q⟩
    | .brk, ⟨_, _, _, q⟩ => exact (q : False).elim
    | .cont, ⟨_, _, _, q⟩ => exact (q : False).elim
/-- THE RULE for a def: its body as a term of ours, and what it must show of that term -/
theorem fn_okG {x qual : Str} {st : Stmt} {f : Addr} {fd : FuncData} {N ps : List Str} {k : Nat} {Φ : Con} {ub : US} (F : Fun K x qual st f fd) (Sc : FnScope N ps (defScope st)) (len : ∀ us S P, Φ us S P → us.length = ps.length)
    (hder : ∀ (X : Cx), X.prog = P → X.w = w → X.K = K → X.mg = mg → X.base = base → X.N = N → X.env.scope = defScope st → X.calm = true → X.A.guards = some [] → Room k X.A → (∀ y, X.fn y = true) → PassesOwn (model X.prog X.w) X.A X.env X.xe → PSs X (defBody st) (tWS X.K ub))
    (hvc : ∀ us S P, Φ us S P → ub ⟨fun _ S' => P .non S', P, fun _ _ => False, fun _ _ => False⟩ (ustart N.length us) S) : FnG P w K mg base (k + 1) f fd ps (spU K Φ) := by
  refine fnG_mk F Sc (fun vs H Q E h => ?_) (fun cdv A fr s H vs Q E hg hr h => ?_)
  · obtain ⟨us, S, P, r, _, h, _⟩ := h
    rw [← r.length]
    exact len us S P h
  · obtain ⟨us, S, P', r, so, h, q⟩ := h
    refine ⟨_, hder ((cxOf CX0 P w K mg base N qual (defScope st) f cdv A fr s H E).nox) rfl rfl rfl rfl rfl rfl rfl rfl hg hr (fun _ => rfl) PassesOwn.never, _, S, _, start_ok r, so, hvc us S P' h, fun σu' S' σ' H' hn _ so' e' => q _ S' _ H' hn rfl so' e', q, fun _ _ _ _ z => z.elim, fun _ _ _ _ z => z.elim⟩
end
section
variable {X : Cx} {pos p : Pos} {e : Expr} {es : List Expr}
theorem runG {k : Nat} {f : Addr} {fd : FuncData} {ps : List Str} {Φ : Con} (F : FnG X.prog X.w X.K X.mg X.base k f fd ps (spU X.K Φ)) (hgd : X.A.guards = some []) (hr : Room k X.A) (hb : L2.Binds X.K fd ps []) :
    CallR X (.ref f) (fun vs H Q => spU X.K Φ vs H Q fun _ _ _ => False) := by
  intro pins s σ H vs us Q I hv h
  have hl : (us ++ ([] : List Value)).length = ps.length := by
    rw [List.append_nil, ← hv.length]
    exact F.many _ _ _ _ h
  have hbi := hb s us I.kIn hl
  rw [List.append_nil] at hbi
  refine wpAny_call (codeAny_mono (F.does X.A X.stack s H ⟨us, []⟩ us vs Q _ hgd hr I.env0 hbi hv h) fun r s' hq => ?_)
  match r, hq with
  | .ok (.ret u), hq => exact I.after hq
  | .ok .next, hq => exact (hq : False).elim
  | .ok .brk, hq => exact (hq : False).elim
  | .ok .cont, hq => exact (hq : False).elim
  | .error e, hq => exact (hq : False).elim
theorem w_callG {k : Nat} {f : Addr} {fd : FuncData} {ps : List Str} {x : Str} {Φ : Con} {t : UL} (F : FnG X.prog X.w X.K X.mg X.base k f fd ps (spU X.K Φ)) (hgd : X.A.guards = some []) (hr : Room k X.A) (hg : Gl X x) (hm : X.mg x = some (.ref f)) (hk : PySem.W.keepIn X.K (.ref f) = true) (hb : L2.Binds X.K fd ps [])
    (ha : PA X (e :: es) (tWA X.K t)) (hdb : (x == ("__debug__" : Str)) = false := by decide) (he : starEach (e :: es) X.env = (false, eval e X.env) :: starEach es X.env := by rfl) (hpl : (backTo pos (starEach es X.env)).any (·.1) = false := by rfl) :
    PE X (.Call (.Name x p) (e :: es) [] pos) (tW X.K (uCall Φ t)) := by
  refine ⟨fun pins s σ H Q I w => ?_⟩
  obtain ⟨σu, S, P, re, so, h, q⟩ := w
  refine wpAny_Call_Name_kw (ld_glob I hg hm ?_ hdb)
  have hargs := ha.run pos pins s σ H (fun vs H1 => spU X.K Φ vs H1 Q fun _ _ _ => False) I ⟨σu, S, _, re, so, h, fun xs S1 vs H1 h1 rx so1 e1 => ⟨xs, S1, P, rx, so1, h1, q.ext e1⟩⟩
  refine PySem.W.callWith_K (h₀ := X.base) I.ok.mod.kin hk (thn hargs fun us s1 ⟨vs, H1, I1, r1, q1⟩ => ⟨I1.kIn, ?_⟩) he hpl
  exact runG F hgd hr hb pins s1 σ H1 vs us Q I1 r1 q1
theorem w_callG0 {k : Nat} {f : Addr} {fd : FuncData} {ps : List Str} {x : Str} {Φ : Con} (F : FnG X.prog X.w X.K X.mg X.base k f fd ps (spU X.K Φ)) (hgd : X.A.guards = some []) (hr : Room k X.A) (hg : Gl X x) (hm : X.mg x = some (.ref f)) (hk : PySem.W.keepIn X.K (.ref f) = true) (hb : L2.Binds X.K fd ps [])
    (hdb : (x == ("__debug__" : Str)) = false := by decide) : PE X (.Call (.Name x p) [] [] pos) (tW X.K (uCall Φ uNil)) := by
  refine ⟨fun pins s σ H Q I w => ?_⟩
  obtain ⟨σu, S, P, re, so, h, q⟩ := w
  refine wpAny_Call_Name_kw (ld_glob I hg hm ?_ hdb)
  exact PySem.W.callWith_K0 I.kIn hk (runG F hgd hr hb pins s σ H [] [] Q I .nil ⟨[], S, P, rfl, so, h, q⟩)
end
end Y

set_option Elab.async false
set_option linter.all false
set_option maxRecDepth 100000
set_option maxHeartbeats 2000000
namespace Y
open PySem L2 PySem.Spec PyProof.Rows

/-! ### values of ours as data -/
mutual
inductive UDat (S : Sto) : U → PyData → Prop where
  | non : UDat S .non .none
  | bl (b : Bool) : UDat S (.bl b) (.bool b)
  | int (i : Int) : UDat S (.int i) (.int i)
  | str (x : Str) : UDat S (.str x) (.str x)
  | tup {us : List U} {ds : List PyData} (h : UDats S us ds) : UDat S (.tup us) (.tuple ds)
  | rol {us : List U} {ds : List PyData} (h : UDats S us ds) : UDat S (.rol us) (.list ds)
  | lst {a : Addr} {us : List U} {ds : List PyData} (e : S a = some (.lst us)) (h : UDats S us ds) : UDat S (.loc a) (.list ds)
inductive UDats (S : Sto) : List U → List PyData → Prop where
  | nil : UDats S [] []
  | cons {u : U} {us : List U} {d : PyData} {ds : List PyData} (h : UDat S u d) (t : UDats S us ds) : UDats S (u :: us) (d :: ds)
end
section
variable {K : PySem.W.Frag} {H : Hp} {S : Sto}
mutual
theorem UDat.dp (so : SO K H S) : ∀ (d : PyData) (u : U) (v : V), UDat S u d → RU K H u v → Dp K H v d
  | .none, _, _, h, r => by cases h; rw [show _ = V.non from r]; exact .non
  | .bool b, _, _, h, r => by cases h; rw [show _ = V.bl b from r]; exact .bl b
  | .int i, _, _, h, r => by cases h; rw [show _ = V.int i from r]; exact .int i
  | .str x, _, _, h, r => by cases h; rw [show _ = V.str x from r]; exact .str x
  | .list ds, _, _, h, r => by
    cases h with
    | rol hs =>
      obtain ⟨p, vs, e, sq, r⟩ := r
      rw [e]
      exact .lst sq.sq (UDats.dp so ds _ _ hs r)
    | lst e hs =>
      rw [show _ = V.ref _ from r]
      obtain ⟨vs, e2, r2⟩ := so _ _ e
      exact .lst (.inl (.inl e2)) (UDats.dp so ds _ _ hs r2)
  | .tuple ds, _, _, h, r => by
    cases h with
    | tup hs =>
      obtain ⟨p, vs, e, sq, r⟩ := r
      rw [e]
      exact .tup sq (UDats.dp so ds _ _ hs r)
  | .dict _, _, _, h, _ => by cases h
theorem UDats.dp (so : SO K H S) : ∀ (ds : List PyData) (us : List U) (vs : List V), UDats S us ds → RUs K H us vs → DpAll K H vs ds
  | [], _, _, h, r => by cases h; rw [RUs.nil_eq r]; exact .nil
  | d :: ds, _, _, h, r => by
    cases h with
    | cons h1 h2 =>
      obtain ⟨w, ws, e, r1, r2⟩ := r
      rw [e]
      exact .cons (UDat.dp so d _ _ h1 r1) (UDats.dp so ds _ _ h2 r2)
end
end
section
variable {X : Cx} {pos p2 : Pos} {a b c e : Expr} {ua ub uc : UE} {es : List Expr}
def fEqD (neg : Bool) : U → U → Sto → UK → Prop := fun x y S P => ∃ d e, UDat S x d ∧ UDat S y e ∧ SeqAt.shaped d = true ∧ SeqAt.shaped e = true ∧ P (.bl (if neg then !PyData.eqv d e else PyData.eqv d e)) S
theorem bl_eqD {K : PySem.W.Frag} : BL K (rEqD K) (fEqD false) := fun x y v w S H P Q rx ry so hf q => by
  obtain ⟨d, e, h1, h2, s1, s2, p⟩ := hf
  exact ⟨d, e, h1.dp so _ _ _ rx, h2.dp so _ _ _ ry, s1, s2, q _ S _ H p rfl so (Ext.refl S H)⟩
theorem bl_neD {K : PySem.W.Frag} : BL K (rNeD K) (fEqD true) := fun x y v w S H P Q rx ry so hf q => by
  obtain ⟨d, e, h1, h2, s1, s2, p⟩ := hf
  exact ⟨d, e, h1.dp so _ _ _ rx, h2.dp so _ _ _ ry, s1, s2, q _ S _ H p rfl so (Ext.refl S H)⟩
/-- == of scalars or of data -/
def fEqA : U → U → Sto → UK → Prop := fun x y S P => fEq x y S P ∨ fEqD false x y S P
def fNeA : U → U → Sto → UK → Prop := fun x y S P => fNe x y S P ∨ fEqD true x y S P
theorem op_eqA (hu : X.A.units + 64 < cLine) : OpR X (compareOp .Eq) (fun x y H Q => rEq x y H Q ∨ rEqD X.K x y H Q) := OpR.or op_eq (op_eqD hu)
theorem op_neA (hu : X.A.units + 64 < cLine) : OpR X (compareOp .NotEq) (fun x y H Q => rNe x y H Q ∨ rNeD X.K x y H Q) := OpR.or op_ne (op_neD hu)
theorem bl_eqA {K : PySem.W.Frag} : BL K (fun x y H Q => rEq x y H Q ∨ rEqD K x y H Q) fEqA := BL.or bl_eq bl_eqD
theorem bl_neA {K : PySem.W.Frag} : BL K (fun x y H Q => rNe x y H Q ∨ rNeD K x y H Q) fNeA := BL.or bl_ne bl_neD

/-! ### a list against [] -/
def rEmp (K : PySem.W.Frag) (neg : Bool) : R2 := fun x y H Q => ∃ a b xs, x = .ref a ∧ y = .ref b ∧ SqL K H a xs ∧ SqL K H b [] ∧ Q (.bl (if neg then !xs.isEmpty else xs.isEmpty)) H
theorem op_empEq (hu : X.A.units < cLine) : OpR X (compareOp .Eq) (rEmp X.K false) := by
  rintro pins s σ H x y v u Q I rx ry ⟨a, b, xs, rfl, rfl, h1, h2, q⟩
  cases rx
  cases ry
  obtain ⟨i1, r1, p1, z1⟩ := I.list h1
  obtain ⟨i2, r2, p2, z2⟩ := I.list h2
  cases r2
  have hlen := r1.length
  by_cases he : i1.toArray.size = ([] : List Value).toArray.size
  · have hx : xs = [] := List.eq_nil_of_length_eq_zero (by simp at he; rw [hlen, he]; rfl)
    subst hx
    cases r1
    exact SeqAt.eq_listAt (e := fun _ => true) p1.isList p2.isList rfl hu (fun j h1 h2 => absurd h1 (by simp)) ⟨.bl true, H, I, rfl, q⟩
  · have hx : xs.isEmpty = false := by
      cases xs with
      | nil => cases r1; exact absurd rfl he
      | cons _ _ => rfl
    rw [hx] at q
    exact SeqAt.eq_list_lengthsAt p1.isList p2.isList (by simpa using he) hu ⟨.bl false, H, I, rfl, q⟩
def uEmpF (l : UL) : UE := fun σ S P => l σ S fun xs S1 => P (.bl xs.isEmpty) S1
theorem w_empF {l : UL} {pn : Pos} (hu : X.A.units < cLine) (ha : PE X a (tWF X.K l)) (hm : behindInMarks .Eq (.List [] pn) = false := by rfl) : PE X (.Compare a [.Eq] [.List [] pn] pos) (tW X.K (uEmpF l)) :=
  PE.imp (pe_cmpR (op_empEq hu) ha (pe_lst pa_nil) hm) fun σ H Q w => by
    obtain ⟨σu, S, P, re, so, h, q⟩ := w
    refine ⟨σu, S, _, re, so, h, fun xs S1 p vs H1 h1 hn nw hp rx so1 e1 => ⟨Nat.zero_le _, fun p2 hp2 => ?_⟩⟩
    have e2 : Ext S1 H1 S1 (upd H1 p2 (.lst [])) := Ext.new hp2 (so1.free hp2)
    refine ⟨p, p2, vs, rfl, rfl, .inl (.inl (e2.keep _ _ hp nw)), .inl (.inl upd_same), ?_⟩
    rw [← isEmpty_rus rx]
    exact q _ S1 _ _ h1 rfl (so1.new hp2) (e1.trans e2)
theorem w_empFT {l : UL} {pn : Pos} (hu : X.A.units < cLine) (ha : PE X a (tWF X.K l)) (hm : behindInMarks .Eq (.List [] pn) = false := by rfl) : PT X (.Compare a [.Eq] [.List [] pn] pos) (tWT X.K (uTest (uEmpF l))) :=
  PT.imp (pt_cmpR (op_empEq hu) ha (pe_lst pa_nil) hm) fun σ H Q w => test_imp (fun σ H Q w => by
    obtain ⟨σu, S, P, re, so, h, q⟩ := w
    refine ⟨σu, S, _, re, so, h, fun xs S1 p vs H1 h1 hn nw hp rx so1 e1 => ⟨Nat.zero_le _, fun p2 hp2 => ?_⟩⟩
    have e2 : Ext S1 H1 S1 (upd H1 p2 (.lst [])) := Ext.new hp2 (so1.free hp2)
    refine ⟨p, p2, vs, rfl, rfl, .inl (.inl (e2.keep _ _ hp nw)), .inl (.inl upd_same), ?_⟩
    rw [← isEmpty_rus rx]
    exact q _ S1 _ _ h1 rfl (so1.new hp2) (e1.trans e2)) w

/-! ### repr -/
/-- what may be shown: its text fits -/
structure Shw (d : PyData) : Prop where
  ok : d.showable = true
  fit : d.shown.length ≤ sizeLine
  dp : d.depth ≤ 60
def rRepr (K : PySem.W.Frag) : List V → Hp → VK → Prop := fun xs H Q => ∃ x d, xs = [x] ∧ Dp K H x d ∧ Shw d ∧ Q (.str d.shown) H
theorem nodict : (∀ (d : PyData) (K : PySem.W.Frag) (H : Hp) (v : V), Dp K H v d → d.hasDict = false) := by
  intro d K H v h
  refine Dp.rec (motive_1 := fun v d _ => d.hasDict = false) (motive_2 := fun vs ds _ => PyData.hasDictAll ds = false) ?_ ?_ ?_ ?_ ?_ ?_ ?_ ?_ h
  · rfl
  · intro; rfl
  · intro; rfl
  · intro; rfl
  · intro a xs ds _ _ ih; simpa [PyData.hasDict] using ih
  · intro a xs ds _ _ ih; simpa [PyData.hasDict] using ih
  · rfl
  · intro v vs d ds _ _ h1 h2; simp [PyData.hasDictAll, h1, h2]
theorem call_reprD (hg : X.A.guards = some []) (hu : X.A.units + 64 < cLine) : CallR X (.builtin "repr") (rRepr X.K) := by
  rintro pins s σ H xs us Q I r ⟨x, d, rfl, hd, sh, q⟩
  obtain ⟨u, rfl, ru⟩ := vals1 r
  have hnd := nodict d _ _ _ hd
  obtain ⟨as, rd⟩ := Dp.reads I d x u hd ru
  cases hd with
  | non => cases ru; exact PySem.P.repr_of_none ⟨.str _, H, I.tok _, ⟨_, rfl⟩, q⟩
  | bl b => cases ru; exact PySem.P.repr_of_bool ⟨.str _, H, I.tok _, ⟨_, rfl⟩, q⟩
  | int i =>
    obtain ⟨t, rfl⟩ := ru
    exact PySem.P.repr_of_int (by simpa [PyData.showable] using sh.ok) ⟨.str _, H, I.tok _, ⟨_, rfl⟩, q⟩
  | str z =>
    obtain ⟨t, rfl⟩ := ru
    exact PySem.P.repr_of_str ⟨.str _, H, I.tok _, ⟨_, rfl⟩, q⟩ (by simpa [PyData.shown] using sh.fit)
  | lst hs ha =>
    cases ru
    have := sh.dp
    exact PySem.repr_of_reads' rd sh.ok (fun z => by rw [hnd] at z; cases z) hg (by omega) (fun _ _ z => z) (fun h' t tk k => ⟨.str _, H, I.kept (t' := tk) k, ⟨_, rfl⟩, q⟩) sh.fit
  | tup hs ha =>
    cases ru
    have := sh.dp
    exact PySem.repr_of_reads' rd sh.ok (fun z => by rw [hnd] at z; cases z) hg (by omega) (fun _ _ z => z) (fun h' t tk k => ⟨.str _, H, I.kept (t' := tk) k, ⟨_, rfl⟩, q⟩) sh.fit
def fRepr : List U → Sto → UK → Prop := fun xs S P => ∃ x d, xs = [x] ∧ UDat S x d ∧ Shw d ∧ P (.str d.shown) S
theorem cl_repr {K : PySem.W.Frag} : CL K (rRepr K) fRepr := fun xs vs S H P Q r so h q => by
  obtain ⟨x, d, rfl, hd, sh, p⟩ := h
  obtain ⟨v, rfl, rv⟩ := r.v1
  exact ⟨v, d, rfl, hd.dp so _ _ _ rv, sh, q _ S _ H p rfl so (Ext.refl S H)⟩

/-! ### - -/
def uNeg (a : UE) : UE := fun σ S P => a σ S fun x S1 => ∃ i, x = .int i ∧ P (.int (-i)) S1
theorem w_neg (ha : PE X a (tW X.K ua)) : PE X (.UnaryOp .USub a pos) (tW X.K (uNeg ua)) := PE.imp (pe_un un_neg ha) fun σ H Q w => by
  obtain ⟨σu, S, P, re, so, h, q⟩ := w
  refine ⟨σu, S, _, re, so, h, fun x S1 v H1 ⟨i, ex, h1⟩ rx so1 e1 => ?_⟩
  subst ex
  exact ⟨i, rx, q _ S1 _ H1 h1 rfl so1 e1⟩
/-- // of great ints -/
def fDivW := fI CDivW fun i j => U.int (i / j)
theorem w_divW (ha : PE X a (tW X.K ua)) (hb : PE X b (tW X.K ub)) : PE X (.BinOp a .FloorDiv b pos) (tW X.K (uBin fDivW ua ub)) := w_bin op_fdivW (BL.ints fun _ _ _ => rfl) ha hb
def fMulW := fI CMulW fun i j => U.int (i * j)
theorem w_mulW (ha : PE X a (tW X.K ua)) (hb : PE X b (tW X.K ub)) : PE X (.BinOp a .Mult b pos) (tW X.K (uBin fMulW ua ub)) := w_bin op_mulW (BL.ints fun _ _ _ => rfl) ha hb
/-- % by anything but 0 -/
def fModN := fI (fun _ j => j ≠ 0) fun i j => U.int (i.fmod j)
theorem w_modN (ha : PE X a (tW X.K ua)) (hb : PE X b (tW X.K ub)) : PE X (.BinOp a .Mod b pos) (tW X.K (uBin fModN ua ub)) := w_bin op_modN (BL.ints fun _ _ _ => rfl) ha hb
/-- <= of ints and of texts -/
def fLeA : U → U → Sto → UK → Prop := fun x y S P => match x, y with
  | .int i, .int j => P (.bl (decide (i ≤ j))) S
  | .str i, .str j => P (.bl (!decide (j.cps.toList < i.cps.toList))) S
  | _, _ => False
def rLeA : R2 := fun x y H Q => (rI0 fun i j => .bl (decide (i ≤ j))) x y H Q ∨ (fun x y H Q => ∃ i j, x = .str i ∧ y = .str j ∧ Q (.bl (!decide (j.cps.toList < i.cps.toList))) H) x y H Q
theorem op_leA : OpR X (compareOp .LtE) rLeA := OpR.or op_le op_le_str
theorem bl_leA {K : PySem.W.Frag} : BL K rLeA fLeA := fun x y v w S H P Q rx ry so hf q => by
  unfold fLeA at hf
  split at hf
  · exact .inl ⟨_, _, rx, ry, q _ S _ H hf rfl so (Ext.refl S H)⟩
  · exact .inr ⟨_, _, rx, ry, q _ S _ H hf rfl so (Ext.refl S H)⟩
  · exact hf.elim
end
end Y

set_option Elab.async false
set_option linter.all false
set_option maxRecDepth 100000
set_option maxHeartbeats 2000000
namespace Y
open PySem L2 PySem.Spec PyProof.Rows

/-! ### an own error as a value -/
/-- what an __init__ promises that stores its arguments under these names, in this order -/
def spInit (K : PySem.W.Frag) (C : Addr) (fns : List Str) : Sp := fun vs H Q _ => ∃ (a : Addr) (ws : List V), vs = .ref a :: ws ∧ ws.length = fns.length ∧ H a = some (exo a C none) ∧
  ∀ d, H d = none → d ≠ a → Q .non (upd (upd H d (exd d ((fns.zip ws).reverse))) a (exo a C (some d)))
section
variable {P : Program} {w : World} {K : PySem.W.Frag} {mg : Str → Option Value} {base : Heap}
theorem init1 {qual x0 x1 f1 : Str} {st : Stmt} {f C : Addr} {fd : FuncData} (F : Fun K "__init__" qual st f fd) (Sc : FnScope [x0, x1] [x0, x1] (defScope st)) (T : OexC K C) (h1 : PySem.W.findIn K (.ref C) f1 = some none)
    (hd : ∀ X : Cx, X.env.scope = defScope st → X.N = [x0, x1] → X.K = K → ∀ {t0 t1 : TE}, PE X (.Name x0 ⟨0, 0, 0, 0⟩) t0 → True)
    (hb : ∀ (cdv : Value) (A : Around) (fr : List Env) (s : Shared) (H : Hp) (E : XK), PSs (cxOf CX0 P w K mg base [x0, x1] qual (defScope st) f cdv A fr s H E).nox (defBody st) (tOst K f1 (tVar 0) (tVar 1))) :
    FnG P w K mg base 1 f fd [x0, x1] (spInit K C [f1]) := by
  refine fnG_mk F Sc (fun vs H Q E h => ?_) (fun cdv A fr s H vs Q E hg hr h => ?_)
  · obtain ⟨a, ws, rfl, hl, _⟩ := h
    simp [hl]
  · obtain ⟨a, ws, rfl, hl, ha, k⟩ := h
    obtain ⟨v, rfl⟩ : ∃ v, ws = [v] := by
      match ws, hl with
      | [v], _ => exact ⟨v, rfl⟩
    refine ⟨_, hb cdv A fr s H E, v, rfl, .ref a, rfl, a, C, rfl, T, h1, .inl ⟨ha, fun d h n => ?_⟩⟩
    exact k d h n
theorem init2 {qual x0 x1 x2 f1 f2 : Str} {st : Stmt} {f C : Addr} {fd : FuncData} (F : Fun K "__init__" qual st f fd) (Sc : FnScope [x0, x1, x2] [x0, x1, x2] (defScope st)) (T : OexC K C) (h1 : PySem.W.findIn K (.ref C) f1 = some none) (h2 : PySem.W.findIn K (.ref C) f2 = some none)
    (hb : ∀ (cdv : Value) (A : Around) (fr : List Env) (s : Shared) (H : Hp) (E : XK), PSs (cxOf CX0 P w K mg base [x0, x1, x2] qual (defScope st) f cdv A fr s H E).nox (defBody st) (tSeq (tOst K f1 (tVar 0) (tVar 1)) (tOst K f2 (tVar 0) (tVar 2)))) :
    FnG P w K mg base 1 f fd [x0, x1, x2] (spInit K C [f1, f2]) := by
  refine fnG_mk F Sc (fun vs H Q E h => ?_) (fun cdv A fr s H vs Q E hg hr h => ?_)
  · obtain ⟨a, ws, rfl, hl, _⟩ := h
    simp [hl]
  · obtain ⟨a, ws, rfl, hl, ha, k⟩ := h
    obtain ⟨v1, v2, rfl⟩ : ∃ v1 v2, ws = [v1, v2] := by
      match ws, hl with
      | [v1, v2], _ => exact ⟨v1, v2, rfl⟩
    refine ⟨_, hb cdv A fr s H E, v1, rfl, .ref a, rfl, a, C, rfl, T, h1, .inl ⟨ha, fun d h n => ?_⟩⟩
    refine ⟨v2, rfl, .ref a, rfl, a, C, rfl, T, h2, .inr ⟨d, [(f1, v1)], upd_same, by rw [upd_ne n, upd_same], by simp, ?_⟩⟩
    have e : upd (upd (upd H d (exd d [(f1, v1)])) a (exo a C (some d))) d (exd d [(f2, v2), (f1, v1)]) = upd (upd H d (exd d [(f2, v2), (f1, v1)])) a (exo a C (some d)) := by
      funext b
      by_cases q : b = d
      · subst q
        rw [upd_same, upd_ne n, upd_same]
      · rw [upd_ne q]
        by_cases q2 : b = a
        · rw [q2, upd_same, upd_same]
        · rw [upd_ne q2, upd_ne q, upd_ne q2, upd_ne q]
    rw [e]
    exact k d h n
end
section
variable {X : Cx} {pos p : Pos} {e : Expr} {es : List Expr}
/-- C(e, ..) -/
def uExc (C : Addr) (fns : List Str) (t : UL) : UE := fun σ S P => t σ S fun us S1 => us.length = fns.length ∧ us.length ≤ 900 ∧ P (.exc C ((fns.zip us).reverse)) S1
theorem rfs_zip {K : PySem.W.Frag} {H : Hp} : ∀ {fns : List Str} {us : List U} {vs : List V}, RUs K H us vs → RFs K H (fns.zip us) (fns.zip vs)
  | [], us, vs, _ => by simp [RFs]
  | f :: fns, [], vs, r => by rw [RUs.nil_eq r]; simp [RFs]
  | f :: fns, u :: us, vs, r => by
    obtain ⟨w, ws, e, r1, r2⟩ := r
    rw [e]
    exact ⟨w, fns.zip ws, rfl, r1, rfs_zip r2⟩
theorem rfs_app {K : PySem.W.Frag} {H : Hp} : ∀ {fs gs : List (Str × U)} {vs ws : List (Str × V)}, RFs K H fs vs → RFs K H gs ws → RFs K H (fs ++ gs) (vs ++ ws)
  | [], gs, vs, ws, r, q => by rw [show vs = [] from r]; exact q
  | (f, u) :: fs, gs, vs, ws, r, q => by
    obtain ⟨w, ws', e, r1, r2⟩ := r
    rw [e]
    exact ⟨w, _, rfl, r1, rfs_app r2 q⟩
theorem rfs_rev {K : PySem.W.Frag} {H : Hp} : ∀ {fs : List (Str × U)} {vs : List (Str × V)}, RFs K H fs vs → RFs K H fs.reverse vs.reverse
  | [], vs, r => by rw [show vs = [] from r]; exact rfl
  | (f, u) :: fs, vs, r => by
    obtain ⟨w, ws', e, r1, r2⟩ := r
    rw [e, List.reverse_cons, List.reverse_cons]
    exact rfs_app (rfs_rev r2) ⟨w, [], rfl, r1, rfl⟩
theorem w_exc {x : Str} {C fI : Addr} {k : Nat} {fd : FuncData} {ps fns : List Str} {t : UL} (T : OexC X.K C) (iC : PySem.W.findIn X.K (.ref C) "__init__" = some (some (.ref fI))) (tI : PySem.W.typeIn X.K (.ref fI) = some (.type "function"))
    (F1 : FnG X.prog X.w X.K X.mg X.base k fI fd ps (spInit X.K C fns)) (hgd : X.A.guards = some []) (hr : Room (k + 1) X.A) (hb : L2.Binds X.K fd ps []) (hg : Gl X x) (hm : X.mg x = some (.ref C)) (ha : PA X (e :: es) (tWA X.K t))
    (hdb : (x == ("__debug__" : Str)) = false := by decide) (he : starEach (e :: es) X.env = (false, eval e X.env) :: starEach es X.env := by rfl) (hpl : (backTo pos (starEach es X.env)).any (·.1) = false := by rfl) :
    PE X (.Call (.Name x p) (e :: es) [] pos) (tW X.K (uExc C fns t)) := by
  refine ⟨fun pins s σ H Q I w => ?_⟩
  obtain ⟨σu, S, P, re, so, h, q⟩ := w
  obtain ⟨nm, qn, N, bs, bm, sn, sub, ab, col, dd, k0, k1, k2, k3, k5, hC, hbm⟩ := T.cls
  refine wpAny_Call_Name_kw (ld_glob I hg hm ?_ hdb)
  have hargs := ha.run pos pins s σ H (fun vs H1 => ∃ us S1, RUs X.K H1 us vs ∧ SO X.K H1 S1 ∧ Ext S H S1 H1 ∧ us.length = fns.length ∧ us.length ≤ 900 ∧ P (.exc C ((fns.zip us).reverse)) S1) I
    ⟨σu, S, _, re, so, h, fun us S1 vs H1 ⟨h1, h2, h3⟩ rx so1 e1 => ⟨us, S1, rx, so1, e1, h1, h2, h3⟩⟩
  refine PySem.W.callWith_K (h₀ := X.base) I.ok.mod.kin T.kC (thn hargs fun us s1 ⟨vs, H1, I1, r1, us', S1, rx, so1, e1, hl1, hl2, hp⟩ => ⟨I1.kIn, ?_⟩) he hpl
  show wpAny _ _ (call (.ref C) us) _ _ _
  obtain ⟨g0, g1, g2, tk, os⟩ := s1
  -- the tuple of the arguments, then the error itself
  have above : g0.objs.size ≤ g0.objs.size + 1 := Nat.le_succ _
  have fresh : H1 (g0.objs.size + 1) = none := I1.hok.fresh above
  have stay : ∀ b o, g0.get? b = some o → ((g0.push (PySem.W.kdv_tup us)).push (PySem.HandSPX.excO C g0.objs.size)).get? b = some o := fun b o z => Heap.get?_push_of_some _ (Heap.get?_push_of_some _ z)
  have there : ((g0.push (PySem.W.kdv_tup us)).push (PySem.HandSPX.excO C g0.objs.size)).get? (g0.objs.size + 1) = some (PySem.HandSPX.excO C g0.objs.size) := by heap_get
  have I2 : Inv X pins σ (upd H1 (g0.objs.size + 1) (exo (g0.objs.size + 1) C none)) ⟨(g0.push (PySem.W.kdv_tup us)).push (PySem.HandSPX.excO C g0.objs.size), g1, g2, tk, os⟩ :=
    I1.laid (t' := tk) (a := g0.objs.size + 1) (o := exo (g0.objs.size + 1) C none) (h' := (g0.push (PySem.W.kdv_tup us)).push (PySem.HandSPX.excO C g0.objs.size)) stay above (exo_ok there)
  have hus : us.length ≤ sizeLine := by
    rw [← Paired.length r1, ← rx.length, sizeLine_eq]
    omega
  have hsp : spInit X.K C fns (V.ref (g0.objs.size + 1) :: vs) (upd H1 (g0.objs.size + 1) (exo (g0.objs.size + 1) C none)) (fun v H2 => v = .non ∧ Q (.ref (g0.objs.size + 1)) H2) (fun _ _ _ => False) := by
    refine ⟨_, vs, rfl, by rw [← rx.length, hl1], upd_same, fun d hd nd => ⟨rfl, ?_⟩⟩
    have hd1 : H1 d = none := by rwa [upd_ne nd] at hd
    have f1 : ¬ Wr S1 d := so1.free hd1
    have f2 : ¬ Wr S1 (g0.objs.size + 1) := so1.free fresh
    have A1 : Ext S1 H1 S1 (upd H1 (g0.objs.size + 1) (exo (g0.objs.size + 1) C none)) := Ext.new fresh f2
    have so2 := so1.new (o := exo (g0.objs.size + 1) C none) fresh
    have A2 : Ext S1 (upd H1 (g0.objs.size + 1) (exo (g0.objs.size + 1) C none)) S1 (upd (upd H1 (g0.objs.size + 1) (exo (g0.objs.size + 1) C none)) d (exd d ((fns.zip vs).reverse))) := Ext.new hd f1
    have so3 := so2.new (o := exd d ((fns.zip vs).reverse)) hd
    -- the error's own object is written once more
    have A3 : Ext S1 H1 S1 (upd (upd (upd H1 (g0.objs.size + 1) (exo (g0.objs.size + 1) C none)) d (exd d ((fns.zip vs).reverse))) (g0.objs.size + 1) (exo (g0.objs.size + 1) C (some d))) := by
      have t2 := A1.trans A2
      refine ⟨fun b o hb hn => ?_, t2.dom, fun b hb => ?_⟩
      · rw [upd_ne (ne_of_none hb fresh)]; exact t2.keep b o hb hn
      · by_cases z : b = g0.objs.size + 1
        · rw [z, upd_same] at hb; cases hb
        · rw [upd_ne z] at hb; exact t2.live b hb
    have so4 : SO X.K (upd (upd (upd H1 (g0.objs.size + 1) (exo (g0.objs.size + 1) C none)) d (exd d ((fns.zip vs).reverse))) (g0.objs.size + 1) (exo (g0.objs.size + 1) C (some d))) S1 :=
      so1.ext1 A3 fun b hb => by
        rw [upd_ne fun z => by subst z; exact f2 hb, upd_ne fun z => by subst z; exact f1 hb, upd_ne fun z => by subst z; exact f2 hb]
    refine q _ S1 _ _ hp ⟨_, d, _, rfl, upd_same, by rw [upd_ne nd, upd_same], rfs_rev (rfs_zip (A3.rus so1 rx))⟩ so4 (e1.trans A3)
  have hv2 : Vals (V.ref (g0.objs.size + 1) :: vs) (Value.ref (g0.objs.size + 1) :: us) := .cons rfl r1
  have hl : (Value.ref (g0.objs.size + 1) :: us ++ ([] : List Value)).length = ps.length := by
    rw [List.append_nil, ← hv2.length]
    exact F1.many _ _ _ _ hsp
  have hbi := hb _ (Value.ref (g0.objs.size + 1) :: us) I2.kIn hl
  rw [List.append_nil] at hbi
  have hgm : (X.A.under (.builtin "type.__call__" ⟨.ref C :: us, []⟩)).guards = some [] := by
    first | exact hgd | (simp [Around.under, Code.guards, Code.isGuard, pushGuards, guardIds, hgd]) | (unfold Around.under; simp [hgd])
  refine wpAny_call (PySem.HandSPX.call_own F.excBase_ValueError (fun Y => PySem.HandSPX.refsVE_contains Y bm hbm) (I1.kIn _ _ hC) (PySem.W.looks_findIn I1.kIn iC) (fun self => PySem.W.bind_fn I1.kIn self tI) hus
    (codeAny_mono (F1.does _ X.stack _ _ ⟨Value.ref (g0.objs.size + 1) :: us, []⟩ _ _ _ (fun _ _ _ => False) hgm (hr.make C us []) (I2.env0.make C us []) hbi hv2 hsp) fun r s' hq => ?_))
  match r, hq with
  | .ok (.ret u), hq =>
    obtain ⟨v, H2, I3, rv, ev, hQ⟩ := I2.after hq
    subst ev
    exact ⟨rv, ⟨V.ref (g0.objs.size + 1), H2, I3, rfl, hQ⟩⟩
  | .ok .next, hq => exact (hq : False).elim
  | .ok .brk, hq => exact (hq : False).elim
  | .ok .cont, hq => exact (hq : False).elim
  | .error e, hq => exact (hq : False).elim
end
end Y

set_option Elab.async false
set_option linter.all false
set_option maxRecDepth 100000
set_option maxHeartbeats 2000000
namespace Y
open PySem L2 PySem.Spec PyProof.Rows

/-! ### what the builtins' names hold at the start -/
theorem bo_len : bootBuiltins "len" = some (.builtin "len") := by decide +kernel
theorem bo_abs : bootBuiltins "abs" = some (.builtin "abs") := by decide +kernel
theorem bo_repr : bootBuiltins "repr" = some (.builtin "repr") := by decide +kernel
theorem bo_isinstance : bootBuiltins "isinstance" = some (.builtin "isinstance") := by decide +kernel
theorem bo_all : bootBuiltins "all" = some (.builtin "all") := by decide +kernel
theorem bo_any : bootBuiltins "any" = some (.builtin "any") := by decide +kernel
theorem bo_int : bootBuiltins "int" = some (.type "int") := by decide +kernel
theorem bo_bool : bootBuiltins "bool" = some (.type "bool") := by decide +kernel
theorem bo_str : bootBuiltins "str" = some (.type "str") := by decide +kernel
theorem bo_tuple : bootBuiltins "tuple" = some (.type "tuple") := by decide +kernel
theorem bo_list : bootBuiltins "list" = some (.type "list") := by decide +kernel
theorem bo_dict : bootBuiltins "dict" = some (.type "dict") := by decide +kernel
theorem bo_set : bootBuiltins "set" = some (.type "set") := by decide +kernel
theorem bo_sorted : bootBuiltins "sorted" = some (.builtin "sorted") := by decide +kernel

/-! ### a callee -/
structure Cal (P : Program) (w : World) (K : PySem.W.Frag) (mg : Str → Option Value) (base : Heap) (x : Str) (k : Nat) (Φ : Con) : Prop where
  ex : ∃ (a : Addr) (fd : FuncData) (ps : List Str), mg x = some (.ref a) ∧ PySem.W.keepIn K (.ref a) = true ∧ L2.Binds K fd ps [] ∧ FnG P w K mg base k a fd ps (spU K Φ)
section
variable {X : Cx} {pos p : Pos} {e : Expr} {es : List Expr}
theorem w_callC {k : Nat} {x : Str} {Φ : Con} {t : UL} (c : Cal X.prog X.w X.K X.mg X.base x k Φ) (hgd : X.A.guards = some []) (hr : Room k X.A) (ha : PA X (e :: es) (tWA X.K t)) (hg : Gl X x := by rfl)
    (hdb : (x == ("__debug__" : Str)) = false := by decide) (he : starEach (e :: es) X.env = (false, eval e X.env) :: starEach es X.env := by rfl) (hpl : (backTo pos (starEach es X.env)).any (·.1) = false := by rfl) :
    PE X (.Call (.Name x p) (e :: es) [] pos) (tW X.K (uCall Φ t)) := by
  obtain ⟨a, fd, ps, h1, h2, h3, h4⟩ := c.ex
  exact w_callG h4 hgd hr hg h1 h2 h3 ha hdb he hpl
end
/-- the classes of errors that a law makes, asked for built-in kinds -/
def kinds : List String := ["int", "bool", "str", "tuple", "list", "dict"]
def kinC (Cs : List Addr) (C : Addr) (T : String) : Option Bool := if C ∈ Cs ∧ T ∈ kinds then some false else none
theorem kin_mk {K : PySem.W.Frag} {Cs : List Addr} (h : ∀ C ∈ Cs, ExcC K C ∧ (PySem.W.clsIn K C).isSome = true ∧ ∀ T ∈ kinds, PySem.W.kitOne K (.ref C) (.type T) = some false) : Kin K (kinC Cs) := ⟨fun C T b e => by
  unfold kinC at e
  split at e
  · rename_i q
    cases Option.some.inj e
    obtain ⟨h1, h2, h3⟩ := h C q.1
    exact ⟨h1, h2, h3 T q.2⟩
  · cases e⟩
section
variable {P : Program} {w : World} {K : PySem.W.Frag} {mg : Str → Option Value} {base : Heap}
/-- THE RULE for a def: its body as a term of ours, and what it must show of that term -/
theorem fn_okC {x qual : Str} {st : Stmt} {f : Addr} {fd : FuncData} {N ps : List Str} {k : Nat} {Φ : Con} {ub : US} (F : Fun K x qual st f fd) (Sc : FnScope N ps (defScope st)) (len : ∀ us S P, Φ us S P → us.length = ps.length)
    (hder : ∀ (cdv : Value) (A : Around) (fr : List Env) (s : Shared) (H : Hp) (E : XK), (A.deeper (envOfC qual (defScope st) s.heap.objs.size f cdv)).guards = some [] → Room k (A.deeper (envOfC qual (defScope st) s.heap.objs.size f cdv)) →
      PSs (cxOf CX0 P w K mg base N qual (defScope st) f cdv A fr s H E).nox (defBody st) (tWS K ub))
    (hvc : ∀ us S P, Φ us S P → ub ⟨fun _ S' => P .non S', P, fun _ _ => False, fun _ _ => False⟩ (ustart N.length us) S) : FnG P w K mg base (k + 1) f fd ps (spU K Φ) := by
  refine fnG_mk F Sc (fun vs H Q E h => ?_) (fun cdv A fr s H vs Q E hg hr h => ?_)
  · obtain ⟨us, S, P, r, _, h, _⟩ := h
    rw [← r.length]
    exact len us S P h
  · obtain ⟨us, S, P', r, so, h, q⟩ := h
    refine ⟨_, hder cdv A fr s H E hg hr, _, S, _, start_ok r, so, hvc us S P' h, fun σu' S' σ' H' hn _ so' e' => q _ S' _ H' hn rfl so' e', q, fun _ _ _ _ z => z.elim, fun _ _ _ _ z => z.elim⟩
end
end Y

set_option Elab.async false
set_option linter.all false
set_option maxRecDepth 100000
set_option maxHeartbeats 2000000
namespace Y
open PySem L2 PySem.Spec PyProof.Rows
section
variable {X : Cx} {pos p : Pos} {a b c e : Expr} {ua ub uc : UE} {es : List Expr}
/-- {} -/
def uNewD : UE := fun _ S P => ∀ p, S p = none → P (.loc p) (sput S p (.dct []))
theorem w_newD : PE X (.Dict [] [] pos) (tW X.K uNewD) := PE.imp pe_dnewK fun σ H Q w => by
  obtain ⟨σu, S, P, re, so, h, q⟩ := w
  intro p hp
  have hS : S p = none := by
    cases e : S p with
    | none => rfl
    | some o => exact absurd ⟨_, e⟩ (so.free hp)
  exact q _ _ _ _ (h p hS) rfl (so.put hp ⟨[], upd_same, rfl⟩) (Ext.put hp (so.free hp))
/-- // by any divisor but 0, of ints of any size -/
def CDivX (_ j : Int) : Prop := j ≠ 0 ∧ j.natAbs.log2 < 9000
theorem op_divX : OpR X (binaryOp .FloorDiv) (rI CDivX fun i j => .int (i.fdiv j)) := opI fun i j _ _ _ _ _ hc q => floordiv_int hc.1 q (.inl (PyProof.noPylong_of_log2 hc.2))
def fDivX := fI CDivX fun i j => U.int (i.fdiv j)
theorem w_divX (ha : PE X a (tW X.K ua)) (hb : PE X b (tW X.K ub)) : PE X (.BinOp a .FloorDiv b pos) (tW X.K (uBin fDivX ua ub)) := w_bin op_divX (BL.ints fun _ _ _ => rfl) ha hb
/-- an own error, all that its making asks in one -/
structure Exq (P : Program) (w : World) (K : PySem.W.Frag) (mg : Str → Option Value) (base : Heap) (x : Str) (C : Addr) (fns : List Str) : Prop where
  ex : ∃ (fI : Addr) (fd : FuncData) (ps : List Str), OexC K C ∧ mg x = some (.ref C) ∧ PySem.W.findIn K (.ref C) "__init__" = some (some (.ref fI)) ∧ PySem.W.typeIn K (.ref fI) = some (.type "function") ∧ L2.Binds K fd ps [] ∧ FnG P w K mg base 1 fI fd ps (spInit K C fns)
theorem w_excC {x : Str} {C : Addr} {fns : List Str} {t : UL} (q : Exq X.prog X.w X.K X.mg X.base x C fns) (hgd : X.A.guards = some []) (hr : Room 2 X.A) (hg : Gl X x) (ha : PA X (e :: es) (tWA X.K t))
    (hdb : (x == ("__debug__" : Str)) = false := by decide) (he : starEach (e :: es) X.env = (false, eval e X.env) :: starEach es X.env := by rfl) (hpl : (backTo pos (starEach es X.env)).any (·.1) = false := by rfl) :
    PE X (.Call (.Name x p) (e :: es) [] pos) (tW X.K (uExc C fns t)) := by
  obtain ⟨fI, fd, ps, h1, h2, h3, h4, h5, h6⟩ := q.ex
  exact w_exc h1 h3 h4 h6 hgd hr h5 hg h2 ha hdb he hpl
/-- len of a new list -/
def fLenL : List U → Sto → UK → Prop := fun xs S P => P (.int xs.length) S
theorem ll_len {K : PySem.W.Frag} : LL K (fun xs H Q => ∃ p ys, xs = [.ref p] ∧ (SqL K H p ys ∨ SqT K H p ys) ∧ Q (.int ys.length) H) fLenL := fun xs p vs S H P Q sq r so h q =>
  ⟨p, vs, rfl, .inl sq, by rw [← r.length]; exact q _ S _ H h rfl so (Ext.refl S H)⟩
def fAny : List U → Sto → UK → Prop := fun xs S P => ∃ bs, bools xs = some bs ∧ P (.bl (bs.any id)) S
theorem ll_any {K : PySem.W.Frag} : LL K (rAny K) fAny := fun xs p vs S H P Q sq r so h q => by
  obtain ⟨bs, hb, p'⟩ := h
  have e := bools_ok r hb
  subst e
  exact ⟨p, bs, rfl, sq, q _ S _ H p' rfl so (Ext.refl S H)⟩
end
section
variable {P : Program} {w : World} {K : PySem.W.Frag} {mg : Str → Option Value} {base : Heap}
/-- of a contract that asks too much nothing is asked -/
theorem fnG_none {k : Nat} {f : Addr} {fd : FuncData} {ps : List Str} {Φ : Con} (h : ∀ us S P, ¬ Φ us S P) : FnG P w K mg base k f fd ps (spU K Φ) :=
  ⟨fun vs H Q E ⟨us, S, P, _, _, p, _⟩ => (h us S P p).elim, fun A fr s H as us vs Q E _ _ _ _ _ ⟨us', S, P, _, _, p, _⟩ => (h us' S P p).elim⟩
end
end Y
namespace Y
open PySem L2
theorem pe_cI {X : Cx} {x : Str} {i : Int} {pos : Pos} (hg : Gl X x) (hm : ∃ t, X.mg x = some (.int i t)) (hd : (x == ("__debug__" : Str)) = false := by decide) : PE X (.Name x pos) (tC (.int i)) := by
  obtain ⟨t, h⟩ := hm
  exact pe_glob hg h ⟨t, rfl⟩ hd
end Y

set_option Elab.async false
set_option linter.all false
set_option maxRecDepth 100000
set_option maxHeartbeats 4000000
namespace Y
open PySem L2
/-! ### steps of the terms as equations -/
theorem ustart_cons {n : Nat} {u : U} {us : List U} : ustart (n + 1) (u :: us) = some u :: ustart n us := by
  simp [ustart]
theorem ustart_none {n : Nat} : ustart (n + 1) [] = none :: ustart n [] := by
  simp [ustart, List.replicate_succ]
theorem ustart_nil : ustart 0 [] = [] := rfl
theorem uget0 {u : U} {σ : Ev} {k : U → Prop} : uGet (some u :: σ) 0 k = k u := rfl
theorem ugetS {o : Option U} {σ : Ev} {i : Nat} {k : U → Prop} : uGet (o :: σ) (i + 1) k = uGet σ i k := rfl
theorem set0 {o p : Option U} {σ : Ev} : (o :: σ).set 0 p = p :: σ := rfl
theorem setS {o p : Option U} {σ : Ev} {i : Nat} : (o :: σ).set (i + 1) p = o :: σ.set i p := rfl
theorem ex_bl {b : Bool} {p : Bool → Prop} : (∃ k, U.bl b = .bl k ∧ p k) = p b :=
  propext ⟨fun ⟨k, e, h⟩ => by cases e; exact h, fun h => ⟨b, rfl, h⟩⟩
theorem ex_int {b : Int} {p : Int → Prop} : (∃ k, U.int b = .int k ∧ p k) = p b :=
  propext ⟨fun ⟨k, e, h⟩ => by cases e; exact h, fun h => ⟨b, rfl, h⟩⟩
theorem ex_str {b : Str} {p : Str → Prop} : (∃ k, U.str b = .str k ∧ p k) = p b :=
  propext ⟨fun ⟨k, e, h⟩ => by cases e; exact h, fun h => ⟨b, rfl, h⟩⟩
theorem ex_tup {b : List U} {p : List U → Prop} : (∃ k, U.tup b = .tup k ∧ p k) = p b :=
  propext ⟨fun ⟨k, e, h⟩ => by cases e; exact h, fun h => ⟨b, rfl, h⟩⟩
theorem ex_some {α : Type} {b : α} {p : α → Prop} : (∃ k, some b = some k ∧ p k) = p b :=
  propext ⟨fun ⟨k, e, h⟩ => by cases e; exact h, fun h => ⟨b, rfl, h⟩⟩
theorem tru_bl {b : Bool} {S : Sto} {p : Bool → Prop} : (∃ k, U.tru S (.bl b) = some k ∧ p k) = p b :=
  propext ⟨fun ⟨k, e, h⟩ => by cases e; exact h, fun h => ⟨b, rfl, h⟩⟩
theorem fI_int {c : Int → Int → Prop} {g : Int → Int → U} {i j : Int} {S : Sto} {P : UK} : fI c g (.int i) (.int j) S P = (c i j ∧ P (g i j) S) :=
  propext ⟨fun ⟨i, j, e1, e2, h⟩ => by cases e1; cases e2; exact h, fun h => ⟨i, j, rfl, rfl, h⟩⟩
theorem leA_int {i j : Int} {S : Sto} {P : UK} : fLeA (.int i) (.int j) S P = P (.bl (decide (i ≤ j))) S := rfl
theorem leA_str {i j : Str} {S : Sto} {P : UK} : fLeA (.str i) (.str j) S P = P (.bl (!decide (j.cps.toList < i.cps.toList))) S := rfl
theorem add_int {i j : Int} {S : Sto} {P : UK} : fAdd (.int i) (.int j) S P = P (.int (i + j)) S := rfl
theorem add_str {i j : Str} {S : Sto} {P : UK} : fAdd (.str i) (.str j) S P = (i.length + j.length ≤ sizeLine ∧ P (.str (i ++ j)) S) := rfl
theorem int_int {i : Int} {S : Sto} {P : UK} : fInt [.int i] S P = P (.int i) S :=
  propext ⟨fun ⟨k, e, h⟩ => by cases e; exact h, fun h => ⟨i, rfl, h⟩⟩
theorem abs_int {i : Int} {S : Sto} {P : UK} : fAbs [.int i] S P = P (.int i.natAbs) S := by
  have e : (if i < 0 then -i else i) = (i.natAbs : Int) := by split <;> omega
  exact propext ⟨fun ⟨k, h, p⟩ => by cases h; rwa [← e], fun h => ⟨i, rfl, by rwa [e]⟩⟩
theorem gcd_int {i j : Int} {S : Sto} {P : UK} : fGcd [.int i, .int j] S P = P (.int (Nat.gcd i.natAbs j.natAbs : Nat)) S :=
  propext ⟨fun ⟨k, l, e, h⟩ => by cases e; exact h, fun h => ⟨i, j, rfl, h⟩⟩
theorem len_tup {us : List U} {S : Sto} {P : UK} : fLen [.tup us] S P = P (.int us.length) S :=
  propext ⟨fun ⟨k, n, e, e2, h⟩ => by cases e; cases e2; exact h, fun h => ⟨_, us.length, rfl, rfl, h⟩⟩
theorem len_str {z : Str} {S : Sto} {P : UK} (hz : z.length ≤ sizeLine) (h : P (.int z.length) S) : fLen [.str z] S P := ⟨_, z.length, rfl, by simp [U.len, hz], h⟩
theorem len_lst {a : Addr} {us : List U} {S : Sto} {P : UK} (e : S a = some (.lst us)) (h : P (.int us.length) S) : fLen [.loc a] S P := ⟨_, us.length, rfl, by simp [U.len, U.seq, e], h⟩
theorem eqA_int {i j : Int} {S : Sto} {P : UK} (h : P (.bl (decide (i = j))) S) : fEqA (.int i) (.int j) S P := .inl ⟨_, rfl, h⟩
theorem neA_int {i j : Int} {S : Sto} {P : UK} (h : P (.bl (!decide (i = j))) S) : fNeA (.int i) (.int j) S P := .inl ⟨_, rfl, h⟩
theorem ixE_tup {us : List U} {i : Int} {S : Sto} {P : UK} : fIx (.tup us) (.int i) S P = ∃ u, atI us i = some u ∧ P u S :=
  propext ⟨fun ⟨k, vs, u, e, e2, h⟩ => by cases e; cases e2; exact ⟨u, h⟩, fun ⟨u, h⟩ => ⟨_, _, u, rfl, rfl, h⟩⟩
theorem atI_nat {α : Type} {xs : List α} {i : Nat} (h : i < xs.length) : atI xs i = some xs[i] := by
  unfold atI ixN
  rw [if_pos (by omega), if_pos (by omega)]
  simp
theorem atI_0 {α : Type} {x : α} {xs : List α} : atI (x :: xs) 0 = some x := atI_nat (i := 0) (by simp)
theorem atI_1 {α : Type} {x y : α} {xs : List α} : atI (x :: y :: xs) 1 = some y := atI_nat (i := 1) (by simp)
theorem atI_2 {α : Type} {x y z : α} {xs : List α} : atI (x :: y :: z :: xs) 2 = some z := atI_nat (i := 2) (by simp)
theorem atI_3 {α : Type} {x y z t : α} {xs : List α} : atI (x :: y :: z :: t :: xs) 3 = some t := atI_nat (i := 3) (by simp)
theorem ixE_lst {a : Addr} {us : List U} {i : Int} {S : Sto} {P : UK} {u : U} (e : S a = some (.lst us)) (h : atI us i = some u) (p : P u S) : fIx (.loc a) (.int i) S P := ⟨_, us, u, rfl, by simp [U.seq, e], h, p⟩

/-! ### list comprehensions without a deed in the store -/
theorem lcT_sel {g : UG} {t : UT} {e : UE} {keep : Sto → Prop} {σ : Ev} {S : Sto} (sel : U → Option U) (hk : keep S) {P : List U → Sto → Prop} : ∀ (us acc : List U),
    (∀ u ∈ us, ∀ (Q1 : UK) (Q0 : Sto → Prop), (match sel u with | some w => Q1 w S | none => Q0 S) → g u σ S fun σ1 S1 => t σ1 S1 fun k S2 => if k = true then e σ1 S2 Q1 else Q0 S2) → P (acc ++ us.filterMap sel) S → uLcT g t e keep σ us acc S P
  | [], acc, _, h => ⟨hk, by simpa using h⟩
  | u :: us, acc, st, h => by
    refine ⟨hk, ?_⟩
    have ih := fun acc' => lcT_sel sel hk (P := P) us acc' (fun u hu => st u (List.mem_cons_of_mem _ hu))
    refine st u List.mem_cons_self (fun w S3 => uLcT g t e keep σ us (acc ++ [w]) S3 P) (fun S2 => uLcT g t e keep σ us acc S2 P) ?_
    cases q : sel u with
    | some w =>
      refine ih _ ?_
      simpa [List.filterMap_cons, q] using h
    | none =>
      refine ih _ ?_
      simpa [List.filterMap_cons, q] using h
/-- .. all taken -/
theorem lcT_map {g : UG} {e : UE} {keep : Sto → Prop} {σ : Ev} {S : Sto} (f : U → U) (hk : keep S) {P : List U → Sto → Prop} (us : List U)
    (st : ∀ u ∈ us, ∀ (Q1 : UK), Q1 (f u) S → g u σ S fun σ1 S1 => e σ1 S1 Q1) (h : P (us.map f) S) : uLcT g uYes e keep σ us [] S P := by
  refine lcT_sel (fun u => some (f u)) hk us [] (fun u hu Q1 Q0 q => ?_) (by simpa using h)
  have := st u hu Q1 q
  simpa [uYes] using this
theorem fm_if (f : U → Bool) (m : U → U) : ∀ us : List U, us.filterMap (fun u => if f u = true then some (m u) else none) = (us.filter f).map m
  | [] => rfl
  | x :: r => by by_cases hx : f x = true <;> simp [hx, fm_if f m r]
/-- .. some taken -/
theorem lcT_filter {g : UG} {t : UT} {e : UE} {keep : Sto → Prop} {σ : Ev} {S : Sto} (f : U → Bool) (m : U → U) (hk : keep S) {P : List U → Sto → Prop} (us : List U)
    (st : ∀ u ∈ us, ∀ (Q : Bool → Sto → Ev → Prop), (∀ σ1, (∀ Q1 : UK, f u = true → Q1 (m u) S → e σ1 S Q1) → Q (f u) S σ1) → g u σ S fun σ1 S1 => t σ1 S1 fun k S2 => Q k S2 σ1) (h : P ((us.filter f).map m) S) : uLcT g t e keep σ us [] S P := by
  refine lcT_sel (fun u => if f u = true then some (m u) else none) hk us [] (fun u hu Q1 Q0 q => ?_) ?_
  · refine st u hu (fun k S2 σ1 => if k = true then e σ1 S2 Q1 else Q0 S2) fun σ1 h1 => ?_
    cases hf : f u with
    | true => rw [if_pos rfl]; rw [hf] at q; exact h1 Q1 hf q
    | false => rw [if_neg (by simp)]; rw [hf] at q; exact q
  · rw [fm_if]
    simpa using h
theorem bools_map (f : U → Bool) : ∀ us : List U, bools (us.map fun u => .bl (f u)) = some (us.map f)
  | [] => rfl
  | u :: us => by simp [bools, bools_map f us]
theorem all_map {f : U → Bool} {us : List U} {S : Sto} {P : UK} (h : P (.bl (us.all f)) S) : fAll (us.map fun u => .bl (f u)) S P := ⟨_, bools_map f us, by simpa [List.all_map] using h⟩
theorem any_map {f : U → Bool} {us : List U} {S : Sto} {P : UK} (h : P (.bl (us.any f)) S) : fAny (us.map fun u => .bl (f u)) S P := ⟨_, bools_map f us, by simpa [List.any_map] using h⟩
theorem lt_one {c d : Nat} : decide ([c] < [d]) = decide (c < d) := by
  congr 1
  exact propext ⟨fun h => by
    match h with
    | List.Lex.rel h => exact h
    | List.Lex.cons h => exact absurd h (List.not_lt_nil _), fun h => List.Lex.rel h⟩
/-- tuples without end -/
theorem filter_none {us : List U} {f : U → Bool} : (us.filter f).isEmpty = us.all fun u => !f u := by
  induction us with
  | nil => rfl
  | cons x r ih => by_cases h : f x = true <;> simp [h, ih]
end Y
local macro_rules | `(tactic| walk_at "ux") => `(tactic| simp only [Y.uSeq, Y.uIfS, Y.uOr, Y.uNot, Y.uAnd, Y.uTru, Y.uCall, Y.uCons, Y.uNil, Y.uVar, Y.uC, Y.uTest, Y.uChain, Y.uBin, Y.uOn, Y.uRet, Y.uRetN, Y.uNext, Y.uAndV, Y.uOrV, Y.uNotV, Y.uIf, Y.uAsg, Y.uPar, Y.uTup, Y.uLst, Y.uNew, Y.uNeg, Y.uDo, Y.uExtF, Y.uCatV, Y.uCatF, Y.uIxF, Y.uSlL, Y.uSlS, Y.uNoP, Y.uPart, Y.uSetL, Y.uAugL, Y.ugName, Y.ugTup, Y.ugCons, Y.ugNil, Y.uNewD, Y.uLc, Y.uwF, Y.uwV, Y.uwS, Y.uwR1, Y.uwR2, Y.uYes, Y.uEmpF, Y.uwipe, Y.ustart_cons, Y.ustart_none, Y.ustart_nil, Y.uget0, Y.ugetS, Y.set0, Y.setS, Y.ex_bl, Y.ex_int, Y.ex_str, Y.ex_tup, Y.ex_some, Y.tru_bl, Y.leA_int, Y.leA_str, Y.add_int, Y.add_str, Y.int_int, Y.abs_int, Y.gcd_int, Y.len_tup, Y.ixE_tup, Y.atI_0, Y.atI_1, Y.atI_2, Y.atI_3, Y.fSub, Y.fMul, Y.fMod, Y.fPow, Y.fLt, Y.fLe, Y.fGt, Y.fGe, Y.fDivX, Y.fDivW, Y.fI_int, if_true, Bool.not_true, Bool.not_false, Bool.false_eq_true, Bool.true_eq_false, if_false, Bool.not_eq_true', true_and, List.length_cons, List.length_nil, List.zip_cons_cons, List.zip_nil_left, List.zip_nil_right, List.foldl_cons, List.foldl_nil])

set_option Elab.async false
set_option linter.all false
set_option maxRecDepth 100000
set_option maxHeartbeats 4000000
namespace Y
open PySem L2
/-! ### loops by an invariant -/
theorem turns_inv {g : UG} {b : US} {keep : Sto → Prop} {D : UD} (I : Nat → Ev → Sto → Prop) : ∀ (us : List U) (i : Nat) (σ : Ev) (S : Sto), (∀ j σ S, i ≤ j → I j σ S → keep S) →
    (∀ j u σ S (K : Ev → Sto → Prop), us[j]? = some u → I (i + j) σ S → (∀ σ' S', I (i + j + 1) σ' S' → K σ' S') → g u σ S fun σ1 S1 => b { D with nx := K, ct := K, bk := D.nx } σ1 S1) →
    (∀ σ S, I (i + us.length) σ S → D.nx σ S) → I i σ S → uTurns g b keep us D σ S
  | [], i, σ, S, hk, st, he, h => ⟨hk i σ S (Nat.le_refl i) h, he σ S (by simpa using h)⟩
  | u :: us, i, σ, S, hk, st, he, h => by
    refine ⟨hk i σ S (Nat.le_refl i) h, ?_⟩
    refine st 0 u σ S (uTurns g b keep us D) rfl h fun σ' S' h' => ?_
    refine turns_inv I us (i + 1) σ' S' (fun j σ S hj => hk j σ S (by omega)) (fun j u σ S K e hi hK => ?_) (fun σ S h => he σ S ?_) h'
    · refine st (j + 1) u σ S K (by simpa using e) ?_ ?_
      · have : i + (j + 1) = i + 1 + j := by omega
        rw [this]; exact hi
      · have : i + (j + 1) + 1 = i + 1 + j + 1 := by omega
        rw [this]; exact hK
    · have : i + (u :: us).length = i + 1 + us.length := by simp; omega
      rw [this]; exact h
/-- list comprehensions with deeds in the store -/
theorem lcT_inv {g : UG} {t : UT} {e : UE} {keep : Sto → Prop} {σ : Ev} (I : Nat → List U → Sto → Prop) {P : List U → Sto → Prop} : ∀ (us : List U) (i : Nat) (acc : List U) (S : Sto), (∀ j acc S, I j acc S → keep S) →
    (∀ j u acc S (Q1 : UK) (Q0 : Sto → Prop), us[j]? = some u → I (i + j) acc S → (∀ w S', I (i + j + 1) (acc ++ [w]) S' → Q1 w S') → (∀ S', I (i + j + 1) acc S' → Q0 S') → g u σ S fun σ1 S1 => t σ1 S1 fun k S2 => if k = true then e σ1 S2 Q1 else Q0 S2) →
    (∀ acc S, I (i + us.length) acc S → P acc S) → I i acc S → uLcT g t e keep σ us acc S P
  | [], i, acc, S, hk, st, he, h => ⟨hk i acc S h, he acc S (by simpa using h)⟩
  | u :: us, i, acc, S, hk, st, he, h => by
    refine ⟨hk i acc S h, ?_⟩
    have ih := fun acc' S' => lcT_inv I (P := P) us (i + 1) acc' S' hk (fun j u acc S Q1 Q0 e hi h1 h0 => by
        have e1 : i + (j + 1) = i + 1 + j := by omega
        have e2 : i + (j + 1) + 1 = i + 1 + j + 1 := by omega
        refine st (j + 1) u acc S Q1 Q0 (by simpa using e) (by rw [e1]; exact hi) (by rw [e2]; exact h1) (by rw [e2]; exact h0)) (fun acc S h => by
        have e3 : i + (u :: us).length = i + 1 + us.length := by simp; omega
        exact he acc S (by rw [e3]; exact h))
    exact st 0 u acc S _ _ rfl h (fun w S' h' => ih _ S' h') (fun S' h' => ih _ S' h')
theorem rng_len {lo : Int} {n : Nat} : (rngU lo n).length = n := by simp [rngU]
theorem rng_get {lo : Int} {n i : Nat} {u : U} (h : (rngU lo n)[i]? = some u) : i < n ∧ u = .int (lo + i) := by
  unfold rngU at h
  rw [List.getElem?_map] at h
  by_cases hi : i < n
  · rw [List.getElem?_range hi] at h
    exact ⟨hi, (Option.some.inj h).symm⟩
  · rw [List.getElem?_eq_none (by simp; omega)] at h
    cases h
/-! ### the store -/
theorem live_put {S : Sto} {p : Addr} {o : Ob} {a : Addr} (h : S a ≠ none) : sput S p o a ≠ none := by
  by_cases e : a = p
  · subst e; rw [sput_same]; exact fun z => nomatch z
  · rw [sput_ne e]; exact h
theorem ne_live {S : Sto} {p a : Addr} (hp : S p = none) (h : S a ≠ none) : a ≠ p := fun e => h (e ▸ hp)
theorem put_keep {S : Sto} {p : Addr} {o : Ob} {a : Addr} (hp : S p = none) (h : S a ≠ none) : sput S p o a = S a := sput_ne (ne_live hp h)
/-! ### the greatest common divisor by Euclid, in few turns -/
/-- behind the i-th turn: the product of both halves -/
def Euc (g : Nat) (M : Nat) (i a b : Nat) : Prop := Nat.gcd a b = g ∧ (i = 0 ∧ b < M ∨ 0 < i ∧ b < a ∧ a * b * 2 ^ (i - 1) < M * M)
theorem Euc.step {g M i a b : Nat} (h : Euc g M i a b) (hb : b ≠ 0) : Euc g M (i + 1) b (a % b) := by
  obtain ⟨h1, h2⟩ := h
  have hb0 : 0 < b := Nat.pos_of_ne_zero hb
  have hr : a % b < b := Nat.mod_lt a hb0
  refine ⟨by rw [Nat.gcd_comm, ← Nat.gcd_rec, Nat.gcd_comm]; exact h1, .inr ⟨by omega, hr, ?_⟩⟩
  rcases h2 with ⟨rfl, h⟩ | ⟨hi, hba, h⟩
  · have : b * (a % b) < M * M := Nat.lt_of_le_of_lt (Nat.mul_le_mul_left b (Nat.le_of_lt hr)) (Nat.mul_lt_mul'' h h)
    simpa using this
  · have h3 : 2 * (a % b) ≤ a := by
      have e := Nat.div_add_mod a b
      have q : 1 ≤ a / b := (Nat.one_le_div_iff hb0).mpr (Nat.le_of_lt hba)
      have : b * 1 ≤ b * (a / b) := Nat.mul_le_mul_left b q
      omega
    have h4 : b * (a % b) * 2 ≤ a * b := by
      have := Nat.mul_le_mul_left b h3
      calc b * (a % b) * 2 = b * (2 * (a % b)) := by rw [Nat.mul_assoc, Nat.mul_comm (a % b)]
        _ ≤ b * a := this
        _ = a * b := Nat.mul_comm b a
    obtain ⟨j, rfl⟩ : ∃ j, i = j + 1 := ⟨i - 1, by omega⟩
    have e : b * (a % b) * 2 ^ (j + 1 + 1 - 1) = b * (a % b) * 2 * 2 ^ j := by
      rw [show j + 1 + 1 - 1 = j + 1 from rfl, Nat.pow_succ, Nat.mul_comm (2 ^ j), ← Nat.mul_assoc]
    rw [e]
    refine Nat.lt_of_le_of_lt (Nat.mul_le_mul_right _ h4) ?_
    simpa using h
theorem Euc.done {g M i a b : Nat} (h : Euc g M i a b) (hi : 0 < i) (hM : M * M ≤ 2 ^ (i - 1)) : a = g := by
  obtain ⟨h1, h2⟩ := h
  rcases h2 with ⟨rfl, _⟩ | ⟨_, hba, h⟩
  · omega
  · have : a * b = 0 := by
      refine Decidable.byContradiction fun z => ?_
      have : 1 * 2 ^ (i - 1) ≤ a * b * 2 ^ (i - 1) := Nat.mul_le_mul_right _ (Nat.pos_of_ne_zero z)
      omega
    rcases Nat.mul_eq_zero.mp this with z | z
    · omega
    · rw [z, Nat.gcd_zero_right] at h1; exact h1
/-! ### what may be shown -/
theorem log2_lt {n k : Nat} (hk : 0 < k) (h : n < 2 ^ k) : n.log2 < k := by
  by_cases h0 : n = 0
  · subst h0; simpa using hk
  · exact (Nat.log2_lt h0).mpr h
/-- a bound on what is shown, and on the depth -/
structure Fit (n k : Nat) (d : PyData) : Prop where
  ok : d.showable = true
  len : d.shown.length ≤ n
  dep : d.depth ≤ k
  lay : d.canLay0 = true
theorem Fit.mono {n k n' k' : Nat} {d : PyData} (h : Fit n k d) (hn : n ≤ n') (hk : k ≤ k') : Fit n' k' d := ⟨h.ok, Nat.le_trans h.len hn, Nat.le_trans h.dep hk, h.lay⟩
theorem Fit.shw {n k : Nat} {d : PyData} (h : Fit n k d) (hn : n ≤ 1000000 := by decide) (hk : k ≤ 60 := by decide) : Shw d := ⟨h.ok, Nat.le_trans h.len (by unfold sizeLine; omega), Nat.le_trans h.dep hk⟩
theorem Fit.shaped {n k : Nat} {d : PyData} (h : Fit n k d) (hk : k ≤ 60 := by decide) : SeqAt.shaped d = true := by
  unfold SeqAt.shaped
  rw [h.lay, Bool.true_and]
  exact decide_eq_true (by have := h.dep; omega)
theorem fit_int {i : Int} {k : Nat} (hk : 0 < k) (h : i.natAbs < 2 ^ k) (h2 : k ≤ 1920) : Fit (k + 1) 0 (.int i) := by
  have hl : i.natAbs.log2 < k := log2_lt hk h
  refine ⟨by simp only [PyData.showable]; exact decide_eq_true (by omega), ?_, by simp [PyData.depth], by simp [PyData.canLay0]⟩
  have := int_text_length_le (a := i) hk hl
  show (Str.ofString (toString i)).length ≤ _
  rw [ofString_length]
  exact this
theorem fit_bool {b : Bool} : Fit 5 0 (.bool b) := by
  cases b <;> exact ⟨rfl, by decide, by simp [PyData.depth], by simp [PyData.canLay0]⟩
theorem fit_none : Fit 4 0 .none := ⟨rfl, by decide, by simp [PyData.depth], by simp [PyData.canLay0]⟩
theorem fit_str {x : Str} (h : ∀ c ∈ x.cps.toList, c < 0x110000) : Fit (10 * x.length + 2) 0 (.str x) := by
  refine ⟨rfl, ?_, by simp [PyData.depth], ?_⟩
  · simp only [PyData.shown]
    exact StrLaws.reprText_len x fun c hc => Nat.lt_trans (h c hc) (by decide)
  · simp only [PyData.canLay0, PyData.strOk]
    rw [Array.all_eq_true']
    intro c hc
    exact decide_eq_true (h c (by simpa using hc))
theorem fit_all {n k : Nat} : ∀ {ds : List PyData}, (∀ d ∈ ds, Fit n k d) → PyData.showableAll ds = true ∧ ((PyData.shownAll ds).map (·.length)).sum ≤ ds.length * n ∧ (PyData.shownAll ds).length = ds.length ∧ PyData.depthAll ds ≤ k ∧ PyData.canLayAll0 ds = true
  | [], _ => ⟨rfl, by simp [PyData.shownAll], rfl, by simp [PyData.depthAll], rfl⟩
  | d :: ds, h => by
    obtain ⟨h1, h2, h3, h4, h5⟩ := fit_all (ds := ds) fun d hd => h d (List.mem_cons_of_mem _ hd)
    have q := h d List.mem_cons_self
    refine ⟨by simp [PyData.showableAll, q.ok, h1], ?_, by simp [PyData.shownAll, h3], by simp only [PyData.depthAll]; exact Nat.max_le.mpr ⟨q.dep, h4⟩, by simp [PyData.canLayAll0, q.lay, h5]⟩
    have := q.len
    simp only [PyData.shownAll, List.map_cons, List.sum_cons, List.length_cons, Nat.add_mul, Nat.one_mul]
    omega
theorem fit_list {n k : Nat} {ds : List PyData} (h : ∀ d ∈ ds, Fit n k d) : Fit (ds.length * n + 2 * ds.length + 3) (k + 1) (.list ds) := by
  obtain ⟨h1, h2, h3, h4, h5⟩ := fit_all h
  refine ⟨by simpa [PyData.showable] using h1, ?_, by simp only [PyData.depth]; omega, by simpa [PyData.canLay0] using h5⟩
  have := listText_len_le (PyData.shownAll ds)
  simp only [PyData.shown]
  omega
theorem fit_tup {n k : Nat} {ds : List PyData} (h : ∀ d ∈ ds, Fit n k d) : Fit (ds.length * n + 2 * ds.length + 3) (k + 1) (.tuple ds) := by
  obtain ⟨h1, h2, h3, h4, h5⟩ := fit_all h
  refine ⟨by simpa [PyData.showable] using h1, ?_, by simp only [PyData.depth]; omega, by simpa [PyData.canLay0] using h5⟩
  have := tupleText_len_le (PyData.shownAll ds)
  simp only [PyData.shown]
  omega
end Y

set_option Elab.async false
set_option linter.all false
set_option maxRecDepth 100000
set_option maxHeartbeats 4000000
namespace Y
open PySem L2 PySem.Spec PyProof.Rows

/-! ### the law's own end, for defs that may ask for a repr -/
/-- of the script alone something is known, and it is never written -/
def Lone (G : Hp) (a : Addr) (v : Obj) (xs : List V) : Prop := G = (fun _ => none) ∨ G = fun b => if b = a then some (.frz v (.lst xs)) else none
theorem Lone.out {G : Hp} {a b : Addr} {v : Obj} {xs : List V} (l : Lone G a v xs) (h : b ≠ a) : G b = none := by
  rcases l with rfl | rfl
  · rfl
  · exact if_neg h
theorem Lone.back {G : Hp} {a b : Addr} {v : Obj} {xs : List V} (l : Lone G a v xs) {u : HO} (h : G b = some u) : b = a ∧ u = .frz v (.lst xs) := by
  rcases l with rfl | rfl
  · cases h
  · dsimp only at h
    split at h
    · exact ⟨by assumption, (Option.some.inj h).symm⟩
    · cases h
section
variable {P : Program} {w : World} {K : PySem.W.Frag} {mg mb : Str → Option Value} {k : Nat} {fa a : Addr} {fd : FuncData} {x : Str} {Φ : Con} {g : Shared} {vs : List Value} {ns : List Int}
theorem lone_call {G : Hp} (lo : Lone G a { cls := .type "list", data := .seq vs.toArray } (ns.map V.int)) (fz : FrzL K G a (ns.map V.int)) (off : G a ≠ none → K.lookup a = none)
    (kin : K.In g.heap) (gl : g.heap.Ns mainGlobals mg) (bl : g.heap.Ns builtinsNs mb) (boot : ∀ y : Str, y ≠ "__name__" → mb y = bootBuiltins y) (nl : g.heap.NoLimit) (gens : g.gens = #[])
    (at_a : g.heap.get? a = some { cls := .type "list", data := .seq vs.toArray }) (ok : HOk P w G g.heap) (rm : Room k callerA)
    (F : ∀ base : Heap, K.In base → base.Ns mainGlobals mg → FnG P w K mg base k fa fd [x] (spU K Φ)) (bi : L2.Binds K fd [x] [])
    (vc : ∀ (S : Sto) (Q : UK), Q = (fun u _ => u = .bl true) → Φ [.rol (ns.map U.int)] S Q) :
    codeAny (model P w) callerA (.call (.ref fa) ⟨[.ref a], []⟩) (fun r t => r = .ok (.ret (.bool true)) ∧ OldK g.heap t.heap ∧ t.os = g.os ∧ AllBare t.gens) g := by
  -- what stands outside of the script stands in the base
  have stand : ∀ {b : Addr} {o : Obj}, g.heap.get? b = some o → G b = none → (hidT g.heap G).get? b = some o := fun h n => hidT_get h n
  have ndict : ∀ {b : Addr} {o : Obj} {es : Array DictEntry} {ep : Nat}, g.heap.get? b = some o → o.data = .dict es ep → G b = none := by
    intro b o es ep h d
    refine lo.out fun z => ?_
    rw [z, at_a] at h
    cases h
    exact Data.noConfusion d
  have names : ∀ {b : Addr} {m : Str → Option Value}, g.heap.Ns b m → (hidT g.heap G).Ns b m := by
    rintro b m ⟨o, es, ep, h, d, r⟩
    exact ⟨o, es, ep, stand h (ndict h d), d, r⟩
  have kb : K.In (hidT g.heap G) := by
    intro b o h
    refine stand (kin b o h) ?_
    cases q : G b with
    | none => rfl
    | some u =>
      have z := (lo.back q).1
      subst z
      rw [off fun n => by rw [n] at q; cases q] at h
      cases h
  obtain ⟨mc, l1, l2⟩ := nl
  have md : Mod K mg (hidT g.heap G) := ⟨kb, names gl, ⟨mb, names bl, boot⟩, mc, names l1, l2⟩
  have en : Env0 P w K mg (hidT g.heap G) callerA [] g G :=
    { frames := rfl, mod := md, bs := fun b o h => of_hidT h, bsz := by rw [hidT_size]; exact Nat.le_refl _, funs := trivial, frf := (fun b hb => absurd (show b ∈ ([] : List Addr) from hb) (by simp)), hok := ok, bare := .of_eq gens }
  have pre : spU K Φ [.ref a] G (fun v _ => v = .bl true) fun _ _ _ => False := by
    refine ⟨[.rol (ns.map U.int)], fun _ => none, _, ⟨_, [], rfl, ⟨a, _, rfl, fz, ?_⟩, rfl⟩, (fun b o h => by cases h), vc _ _ rfl, ?_⟩
    · clear vc fz lo
      induction ns with
      | nil => rfl
      | cons n r ih => exact ⟨_, _, rfl, rfl, ih⟩
    · intro u S' v H' hu rv _ _
      subst hu
      exact rv
  refine codeAny_mono ((F _ kb (names gl)).does callerA [] g G ⟨[.ref a], []⟩ [.ref a] [.ref a] _ _ rfl rm en (by have q := bi g [.ref a] kin rfl; rw [List.append_nil] at q; exact q) (.cons rfl .nil) pre) ?_
  intro r t h
  match r, h with
  | .ok (.ret u), ⟨v, H', os, bare, un, ok', rv, q⟩ =>
    dsimp only at q
    subst q
    cases (show u = Value.bool true from rv)
    refine ⟨rfl, OldK.of_keep ?_, os, bare⟩
    intro b o h
    cases q : G b with
    | none => exact un.keep b o h q (fun z => by cases z) (by simp)
    | some u =>
      obtain ⟨z, rfl⟩ := lo.back q
      obtain ⟨e1, _⟩ := ok b _ q
      obtain ⟨e2, _⟩ := ok' b _ (un.frzs b _ _ q)
      rw [h] at e1
      cases e1
      exact e2
  | .ok .next, h => exact (h : False).elim
  | .ok .brk, h => exact (h : False).elim
  | .ok .cont, h => exact (h : False).elim
  | .error _, h => exact (h : False).elim
end
/-- the whole row, from the promise of the def law -/
theorem walkG {l : PySem.W.OpenLaw} {n k : Nat} {q : Program} {loose : List Str} {XP : (Str → Option Value) → Heap → Prop} {YP : World → Heap → Prop} {d : DefRec} {K : Params → PySem.W.Frag} {x : Str} {Φ : World → Con}
    (hn : l.most = some n) (big : n ≤ sizeLine) (nod : d.params.defaults = []) (rm : Room k callerA) (there : ∀ (w : World) (h : Heap), YP w h → (K w.params).In h)
    (F : ∀ (w : World) (mg : Str → Option Value) (fa : Addr) (h : Heap), (K w.params).In h → h.Ns mainGlobals mg → mg d.name = some (.ref fa) →
      ∃ (Φ : Con) (fd : FuncData), L2.Binds (K w.params) fd [x] [] ∧ (∀ base : Heap, (K w.params).In base → base.Ns mainGlobals mg → FnG l.prog w (K w.params) mg base k fa fd [x] (spU (K w.params) Φ)) ∧
        ∀ (ns : List Int) (S : Sto) (Q : UK), ns.length ≤ n → (∀ z ∈ ns, Builtin.Int.intBits z ≤ 1048576) → Q = (fun u _ => u = .bl true) → Φ [.rol (ns.map U.int)] S Q) :
    PySem.W.WalkO q loose XP YP l.row.toRowW d [] (fun f vs => PySem.call f vs) := by
  refine Att.attach_callB hn nod ?_
  intro w _ g mg mb fa o pm cd doc a vs ns G Y ho hd hcd hmg hobj hints hlen hbits hg
  have kin := there w _ Y
  obtain ⟨Φ, fd, bi, fn, vc⟩ := F w mg fa _ kin G.T.g hmg
  have rv := vals_ints hints
  have small : (ns.map V.int).length ≤ sizeLine := by rw [List.length_map]; omega
  cases hk : (K w.params).lookup a with
  | some u =>
    have e := kin a u hk
    rw [hobj] at e
    cases e
    refine lone_call (.inl rfl) (.inr ⟨_, vs.toArray, _, hk, rfl, rfl, rfl, by rw [List.size_toArray, ← rv.length]; exact small, by simpa using rv⟩) (fun z => absurd rfl z) kin G.T.g G.T.b G.T.builtins G.T.nolimit hg hobj (fun b u z => by cases (show (none : Option HO) = some u from z)) rm fn bi fun S Q hQ => vc ns S Q hlen hbits hQ
  | none =>
    refine lone_call (.inr rfl) (.inl ⟨_, if_pos rfl⟩) (fun _ => hk) kin G.T.g G.T.b G.T.builtins G.T.nolimit hg hobj (fun b u z => ?_) rm fn bi fun S Q hQ => vc ns S Q hlen hbits hQ
    obtain ⟨hb, rfl⟩ := Lone.back (.inr rfl) z
    subst hb
    exact ⟨hobj, small, vs, _, rv, hobj⟩
end Y

set_option Elab.async false
set_option linter.all false
set_option maxRecDepth 100000
set_option maxHeartbeats 4000000
namespace Y
open PySem L2 PySem.Spec PyProof.Rows
/-- what a def's term is to reach: a value that P takes; None at its foot -/
abbrev rtD (P : UK) : UD := ⟨fun _ S' => P .non S', P, fun _ _ => False, fun _ _ => False⟩
/-! ### what the written part holds -/
structure DefIn (K : PySem.W.Frag) (x qual : Str) (st : Stmt) (f : Addr) : Prop where
  ex : ∃ fd, Fun K x qual st f fd
section
variable {P : Program} {w : World} {K : PySem.W.Frag} {mg : Str → Option Value} {base : Heap}
theorem def_in {x qual : Str} {st : Stmt} {f : Addr} {oc : Value} {od an : Option Addr} {osl : Array (Option Value)} {kV doc pm cdv ct : Value} (l : K.lookup f = some ⟨oc, od, .func (PySem.W.fnOf x qual (defArgs st) (defBody st) (defScope st) .none kV doc pm an cdv ct), osl⟩)
    (c : PySem.W.codeIn K cdv qual = true) (k : PySem.W.keepIn K (.ref f) = true) : DefIn K x qual st f := ⟨_, fun_mk l c k⟩
theorem cal_mk {x qual : Str} {st : Stmt} {f : Addr} {fd : FuncData} {ps : List Str} {k : Nat} {Φ : Con} (m : mg x = some (.ref f)) (F : Fun K x qual st f fd) (b : L2.Binds K fd ps []) (G : FnG P w K mg base k f fd ps (spU K Φ)) : Cal P w K mg base x k Φ := ⟨⟨f, fd, ps, m, F.kp, b, G⟩⟩
/-- an own class of errors -/
theorem oex_in {C : Addr} {nm q : Str} {N : Addr} {bs : List Value} {bm : List Value} {sn : List Str} {sub : List Value} {ab : Bool} {col : Option Bool} {dd : Option Addr} {k0 k1 k2 k3 k5 : Option Value}
    (l : K.lookup C = some (excClassObj nm q C N bs bm true sn sub ab col dd k0 k1 k2 k3 k5 "ValueError.__new__")) (r : PySem.HandSPX.refsVE bm = true) (sa : PySem.W.findIn K (.ref C) "__setattr__" = some (some (.builtin "object.__setattr__")))
    (e : PySem.W.subIn K (.ref C) (.type "BaseException") = some true) (t : PySem.W.typeIn K (.ref C) = some (.type "type")) (k : PySem.W.keepIn K (.ref C) = true) : OexC K C :=
  ⟨⟨nm, q, N, bs, bm, sn, sub, ab, col, dd, k0, k1, k2, k3, k5, l, r⟩, sa, e, t, k⟩
theorem oex_cls {C : Addr} (o : OexC K C) : (PySem.W.clsIn K C).isSome = true := by
  obtain ⟨_, _, _, _, _, _, _, _, _, _, _, _, _, _, _, l, _⟩ := o.cls
  unfold PySem.W.clsIn
  rw [l]
  rfl
theorem meta_kinds : (kinds.all PySem.W.kitMeta) = true := by decide +kernel
theorem kit_of {C : Addr} {T : String} (hT : T ∈ kinds) (e : PySem.W.subIn K (.ref C) (.type T) = some false) : PySem.W.kitOne K (.ref C) (.type T) = some false := by
  unfold PySem.W.kitOne PySem.W.kitCls
  rw [if_neg (by intro h; cases (beq_iff_eq.mp h))]
  dsimp only
  rw [if_pos (List.all_eq_true.mp meta_kinds T hT)]
  exact e
theorem exq_mk {x : Str} {C fI : Addr} {fd : FuncData} {ps fns : List Str} (o : OexC K C) (m : mg x = some (.ref C)) (i : PySem.W.findIn K (.ref C) "__init__" = some (some (.ref fI))) (t : PySem.W.typeIn K (.ref fI) = some (.type "function")) (b : L2.Binds K fd ps [])
    (G : FnG P w K mg base 1 fI fd ps (spInit K C fns)) : Exq P w K mg base x C fns := ⟨⟨fI, fd, ps, o, m, i, t, b, G⟩⟩
end
end Y

set_option Elab.async false
set_option linter.all false
set_option maxRecDepth 100000
set_option maxHeartbeats 2000000
namespace K01
open PySem L2 Y

/-! ### what the defs are to tell -/
inductive AnyV (Cs : List Addr) (S : Sto) : U → Prop where
  | non : AnyV Cs S .non
  | bl (b : Bool) : AnyV Cs S (.bl b)
  | int (i : Int) (h : i.natAbs < 2 ^ 150) : AnyV Cs S (.int i)
  | str (x : Str) (h : x.length ≤ 100) : AnyV Cs S (.str x)
  | tup (us : List U) (hl : us.length ≤ 100) (h : ∀ u ∈ us, AnyV Cs S u) : AnyV Cs S (.tup us)
  | loc (a : Addr) (h : S a ≠ none) : AnyV Cs S (.loc a)
  | exc (C : Addr) (fs : List (Str × U)) (h : C ∈ Cs) : AnyV Cs S (.exc C fs)
def isIntU : U → Bool
  | .int _ => true
  | _ => false
def nameS (x : Str) : Bool := decide (1 ≤ x.length) && decide (x.length ≤ 12) && x.cps.toList.all fun c => decide (97 ≤ c) && decide (c ≤ 122)
def isNameU : U → Bool
  | .str x => nameS x
  | _ => false
def isFracU : U → Bool
  | .tup [.int n, .int d] => decide (1 ≤ d) && decide (Nat.gcd n.natAbs d.natAbs = 1)
  | _ => false
def isDeedU : U → Bool
  | .tup [x, y] => isNameU x && isNameU y
  | _ => false
def areDeedsU : U → Bool
  | .tup us => us.all isDeedU
  | _ => false
/-- a judge: a truth of any value -/
def Jd (f : U → Bool) (Cs : List Addr) : Con := fun us S P => ∃ x, us = [x] ∧ AnyV Cs S x ∧ P (.bl (f x)) S
def Φis_integer := Jd isIntU
def Φis_name := Jd isNameU
def Φis_fraction := Jd isFracU
def Φis_deed := Jd isDeedU
def Φare_deeds := Jd areDeedsU
def Φ_law_is_int := Jd isIntU
def Φ_law_is_name := Jd isNameU
def Φ_law_is_fraction := Jd isFracU
def Φ_law_is_deed := Jd isDeedU
def isTupU (x : U) (n : Int) : Bool := match x with
  | .tup us => decide ((us.length : Int) = n)
  | _ => false
def Φ_is_tuple_of (Cs : List Addr) : Con := fun us S P => ∃ x n, us = [x, .int n] ∧ AnyV Cs S x ∧ P (.bl (isTupU x n)) S
def redU (n d : Int) : U := .tup [.int (n.fdiv ((if d < 0 then -1 else 1) * (Nat.gcd n.natAbs d.natAbs : Nat))), .int (d.fdiv ((if d < 0 then -1 else 1) * (Nat.gcd n.natAbs d.natAbs : Nat)))]
def Φreduced (Cs : List Addr) : Con := fun us S P => ∃ n d : Int, us = [.int n, .int d] ∧ d ≠ 0 ∧ n.natAbs < 2 ^ 150 ∧ d.natAbs < 2 ^ 150 ∧ P (redU n d) S
/-- the bag of draws -/
def IsBag (S : Sto) (b : Addr) : Prop := ∃ (n0 n1 n2 : Int) (c : Addr) (cs : List Int), S b = some (.lst [.int n0, .int n1, .int n2, .loc c]) ∧ S c = some (.lst (cs.map U.int)) ∧ b ≠ c ∧ 0 ≤ n0 ∧ 0 ≤ n1 ∧ n1 < 2147483647 ∧ 0 ≤ n2 ∧ cs.length ≤ 63 ∧ ∀ x ∈ cs, 0 ≤ x
/-- all that stood but the bag stands as it stood -/
def But (S S' : Sto) (b : Addr) : Prop := ∀ a, a ≠ b → S a ≠ none → S' a = S a
def Φ_law_bag (Cs : List Addr) : Con := fun us S P => ∃ ns : List Int, us = [.rol (ns.map U.int)] ∧ ns.length ≤ 63 ∧ ∀ b S', IsBag S' b → (∀ a, S a ≠ none → S' a = S a) → P (.loc b) S'
def Φ_law_take (Cs : List Addr) : Con := fun us S P => ∃ (b : Addr) (m : Int), us = [.loc b, .int m] ∧ IsBag S b ∧ 0 < m ∧ m.natAbs < 2 ^ 150 ∧ ∀ r S', 0 ≤ r → r < m → IsBag S' b → But S S' b → P (.int r) S'
/-- the items of a list, a tuple, a text -/
def itsU (S : Sto) : U → Option (List U)
  | .str z => some (sgnU z)
  | x => U.seq S x
def Φ_law_some (Cs : List Addr) : Con := fun us S P => ∃ (b : Addr) (x : U) (xs : List U), us = [.loc b, x] ∧ IsBag S b ∧ x ≠ .loc b ∧ itsU S x = some xs ∧ xs ≠ [] ∧ xs.length ≤ 100 ∧ ∀ u S', u ∈ xs → IsBag S' b → But S S' b → P u S'
def Φ_law_alike (Cs : List Addr) : Con := fun us S P => ∃ x y d, us = [x, y] ∧ UDat S x d ∧ UDat S y d ∧ SeqAt.shaped d = true ∧ Shw d ∧ P (.bl true) S
def Φ_law_common (Cs : List Addr) : Con := fun us S P => ∃ n d : Int, us = [.int n, .int d] ∧ 0 ≤ n ∧ 0 ≤ d ∧ n.natAbs < 2 ^ 150 ∧ d.natAbs < 2 ^ 150 ∧ P (.int (Nat.gcd n.natAbs d.natAbs : Nat)) S
def Φ_law_word (Cs : List Addr) : Con := fun us S P => ∃ b, us = [.loc b] ∧ IsBag S b ∧ ∀ x S', x.length ≤ 100 → IsBag S' b → But S S' b → P (.str x) S'
def Φ_law_any (n : Nat) (Cs : List Addr) : Con := fun us S P => ∃ (b : Addr) (d : Int), us = [.loc b, .int d] ∧ IsBag S b ∧ 0 ≤ d ∧ d < n ∧ d ≤ 2 ∧ ∀ x S', AnyV Cs S' x → x ≠ .loc b → IsBag S' b → But S S' b → P x S'
def Φ_law_number (Cs : List Addr) : Con := fun us S P => ∃ b, us = [.loc b] ∧ IsBag S b ∧ ∀ i S', i.natAbs < 2 ^ 120 → IsBag S' b → But S S' b → P (.int i) S'
def Φlaw (Cs : List Addr) : Con := fun us S P => ∃ ns : List Int, us = [.rol (ns.map U.int)] ∧ ns.length ≤ 63 ∧ ∀ S', P (.bl true) S'
end K01

set_option Elab.async false
set_option linter.all false
set_option maxRecDepth 100000
set_option maxHeartbeats 4000000
namespace K01
open PySem L2 Y
def uis_integer (Cs : List Addr) : US := uRet (uAndV (uCall (fIsi (kinC Cs)) (uCons (uVar 0) (uCons (uC (.ty "int")) (uNil)))) (uNotV (uCall (fIsi (kinC Cs)) (uCons (uVar 0) (uCons (uC (.ty "bool")) (uNil))))))
def uis_name (Cs : List Addr) : US := uSeq (uIfS (uOr (uNot (uTru (uCall (fIsi (kinC Cs)) (uCons (uVar 0) (uCons (uC (.ty "str")) (uNil)))))) (uNot (uTest (uChain fLeA fLeA (uC (.int 1)) (uCall fLen (uCons (uVar 0) (uNil))) (uC (.int 12)))))) (uRet (uC (.bl false))) (uNext)) (uRet (uOn fAll (uLc (uwS (uVar 0)) (ugName 1) (uYes) (uChain fLeA fLeA (uC (.str "a")) (uVar 1) (uC (.str "z"))) [1])))
def u_is_tuple_of (Cs : List Addr) : US := uRet (uAndV (uCall (fIsi (kinC Cs)) (uCons (uVar 0) (uCons (uC (.ty "tuple")) (uNil)))) (uBin fEqA (uCall fLen (uCons (uVar 0) (uNil))) (uVar 1)))
def uis_fraction (Cs : List Addr) : US := uSeq (uIfS (uOr (uNot (uTru (uCall (Φ_is_tuple_of Cs) (uCons (uVar 0) (uCons (uC (.int 2)) (uNil)))))) (uOr (uNot (uTru (uCall (Φis_integer Cs) (uCons (uBin fIx (uVar 0) (uC (.int 0))) (uNil))))) (uNot (uTru (uCall (Φis_integer Cs) (uCons (uBin fIx (uVar 0) (uC (.int 1))) (uNil))))))) (uRet (uC (.bl false))) (uNext)) (uRet (uAndV (uBin fGe (uBin fIx (uVar 0) (uC (.int 1))) (uC (.int 1))) (uBin fEqA (uCall fGcd (uCons (uBin fIx (uVar 0) (uC (.int 0))) (uCons (uBin fIx (uVar 0) (uC (.int 1))) (uNil)))) (uC (.int 1)))))
def ureduced (Cs : List Addr) : US := uSeq (uAsg (uCall fGcd (uCons (uVar 0) (uCons (uVar 1) (uNil)))) (ugName 2)) (uSeq (uIfS (uTest (uBin fLt (uVar 1) (uC (.int 0)))) (uAsg (uNeg (uVar 2)) (ugName 2)) (uNext)) (uRet (uTup (uCons (uBin fDivX (uVar 0) (uVar 2)) (uCons (uBin fDivX (uVar 1) (uVar 2)) (uNil))))))
def uis_deed (Cs : List Addr) : US := uRet (uAndV (uCall (Φ_is_tuple_of Cs) (uCons (uVar 0) (uCons (uC (.int 2)) (uNil)))) (uAndV (uCall (Φis_name Cs) (uCons (uBin fIx (uVar 0) (uC (.int 0))) (uNil))) (uCall (Φis_name Cs) (uCons (uBin fIx (uVar 0) (uC (.int 1))) (uNil)))))
def uare_deeds (Cs : List Addr) : US := uRet (uAndV (uCall (fIsi (kinC Cs)) (uCons (uVar 0) (uCons (uC (.ty "tuple")) (uNil)))) (uOn fAll (uLc (uwV (uVar 0)) (ugName 1) (uYes) (uCall (Φis_deed Cs) (uCons (uVar 1) (uNil))) [1])))
def u_law_bag (Cs : List Addr) : US := uRet (uNew (uLst (uCons (uC (.int 0)) (uCons (uC (.int 1234567891)) (uCons (uC (.int 0)) (uCons (uNew (uLc (uwF (uSlL (uVar 0) (uNoP) (uPart (uC (.int 63))))) (ugName 1) (uYes) (uCall fAbs (uCons (uVar 1) (uNil))) [1])) (uNil)))))))
def u_law_take (Cs : List Addr) : US := uSeq (uIfS (uTest (uBin fEqA (uBin fIx (uVar 0) (uC (.int 0))) (uC (.int 0)))) (uSeq (uAsg (uIxF (uCatF (uSlL (uBin fIx (uVar 0) (uC (.int 3))) (uPart (uBin fIx (uVar 0) (uC (.int 2)))) (uNoP)) (uLst (uCons (uC (.int 0)) (uNil)))) (uC (.int 0))) (ugName 2)) (uSeq (uAugL (uVar 0) (uC (.int 2)) (uC (.int 1))) (uSeq (uIfS (uTest (uBin fGe (uVar 2) (uBin fPow (uC (.int 10)) (uC (.int 18))))) (uSetL (uVar 0) (uC (.int 0)) (uVar 2)) (uNext)) (uSeq (uAsg (uBin fAdd (uBin fAdd (uBin fMul (uBin fIx (uVar 0) (uC (.int 1))) (uC (.int 48271))) (uBin fMod (uCall fInt (uCons (uVar 2) (uNil))) (uC (.int 2147483647)))) (uBin fMul (uC (.int 7919)) (uBin fIx (uVar 0) (uC (.int 2))))) (ugName 3)) (uSetL (uVar 0) (uC (.int 1)) (uBin fMod (uCall fInt (uCons (uVar 3) (uNil))) (uC (.int 2147483647)))))))) (uNext)) (uSeq (uIfS (uTest (uBin fGt (uBin fIx (uVar 0) (uC (.int 0))) (uC (.int 0)))) (uSeq (uAsg (uBin fMod (uCall fInt (uCons (uBin fIx (uVar 0) (uC (.int 0))) (uNil))) (uVar 1)) (ugName 4)) (uSeq (uSetL (uVar 0) (uC (.int 0)) (uBin fDivW (uCall fInt (uCons (uBin fIx (uVar 0) (uC (.int 0))) (uNil))) (uVar 1))) (uRet (uVar 4)))) (uNext)) (uSeq (uAsg (uBin fMod (uCall fInt (uCons (uBin fMul (uBin fAdd (uBin fIx (uVar 0) (uC (.int 1))) (uC (.int 1))) (uC (.int 39373))) (uNil))) (uC (.int 1000000007))) (ugName 5)) (uSeq (uAsg (uBin fMod (uCall fInt (uCons (uBin fMul (uBin fMod (uCall fInt (uCons (uBin fMul (uVar 5) (uVar 5)) (uNil))) (uC (.int 998244353))) (uC (.int 30011))) (uNil))) (uC (.int 998244353))) (ugName 6)) (uRet (uBin fMod (uCall fInt (uCons (uBin fDivW (uVar 6) (uC (.int 7))) (uNil))) (uVar 1))))))
def u_law_some (Cs : List Addr) : US := uRet (uBin fIxA (uVar 1) (uCall (Φ_law_take Cs) (uCons (uVar 0) (uCons (uCall fLen (uCons (uVar 1) (uNil))) (uNil)))))
def u_law_alike (Cs : List Addr) : US := uRet (uAndV (uBin fEqA (uVar 0) (uVar 1)) (uBin fEqA (uCall fRepr (uCons (uVar 0) (uNil))) (uCall fRepr (uCons (uVar 1) (uNil)))))
def u_law_is_int (Cs : List Addr) : US := uRet (uAndV (uCall (fIsi (kinC Cs)) (uCons (uVar 0) (uCons (uC (.ty "int")) (uNil)))) (uNotV (uCall (fIsi (kinC Cs)) (uCons (uVar 0) (uCons (uC (.ty "bool")) (uNil))))))
def u_law_is_name (Cs : List Addr) : US := uSeq (uIfS (uOr (uNot (uTru (uCall (fIsi (kinC Cs)) (uCons (uVar 0) (uCons (uC (.ty "str")) (uNil)))))) (uNot (uTest (uChain fLeA fLeA (uC (.int 1)) (uCall fLen (uCons (uVar 0) (uNil))) (uC (.int 12)))))) (uRet (uC (.bl false))) (uNext)) (uRet (uEmpF (uLc (uwS (uVar 0)) (ugName 1) (uTest (uBin (fInS true) (uVar 1) (uC (.str "abcdefghijklmnopqrstuvwxyz")))) (uVar 1) [1])))
def u_law_common (Cs : List Addr) : US := uSeq (uFor (uwR1 (uC (.int 400))) (ugName 2) (uSeq (uIfS (uTest (uBin fEqA (uVar 1) (uC (.int 0)))) (uRet (uVar 0)) (uNext)) (uPar [0, 1] (uCons (uVar 1) (uCons (uBin fMod (uCall fInt (uCons (uVar 0) (uNil))) (uVar 1)) (uNil)))))) (uRet (uVar 0))
def u_law_is_fraction (Cs : List Addr) : US := uSeq (uIfS (uOr (uNot (uTru (uCall (fIsi (kinC Cs)) (uCons (uVar 0) (uCons (uC (.ty "tuple")) (uNil)))))) (uOr (uTest (uBin fNeA (uCall fLen (uCons (uVar 0) (uNil))) (uC (.int 2)))) (uOr (uNot (uTru (uCall (Φ_law_is_int Cs) (uCons (uBin fIx (uVar 0) (uC (.int 0))) (uNil))))) (uNot (uTru (uCall (Φ_law_is_int Cs) (uCons (uBin fIx (uVar 0) (uC (.int 1))) (uNil)))))))) (uRet (uC (.bl false))) (uNext)) (uRet (uAndV (uBin fGe (uBin fIx (uVar 0) (uC (.int 1))) (uC (.int 1))) (uBin fEqA (uCall (Φ_law_common Cs) (uCons (uCall fAbs (uCons (uBin fIx (uVar 0) (uC (.int 0))) (uNil))) (uCons (uBin fIx (uVar 0) (uC (.int 1))) (uNil)))) (uC (.int 1)))))
def u_law_is_deed (Cs : List Addr) : US := uRet (uAndV (uCall (fIsi (kinC Cs)) (uCons (uVar 0) (uCons (uC (.ty "tuple")) (uNil)))) (uAndV (uBin fEqA (uCall fLen (uCons (uVar 0) (uNil))) (uC (.int 2))) (uAndV (uCall (Φ_law_is_name Cs) (uCons (uBin fIx (uVar 0) (uC (.int 0))) (uNil))) (uCall (Φ_law_is_name Cs) (uCons (uBin fIx (uVar 0) (uC (.int 1))) (uNil))))))
def u_law_word (Cs : List Addr) : US := uSeq (uAsg (uTup (uCons (uC (.str "abcmyz")) (uCons (uC (.str "")) (uNil)))) (ugTup 2 (ugCons (ugName 1) (ugCons (ugName 2) (ugNil))))) (uSeq (uFor (uwR1 (uCall (Φ_law_some Cs) (uCons (uVar 0) (uCons (uNew (uLst (uCons (uC (.int 1)) (uCons (uC (.int 2)) (uCons (uC (.int 5)) (uCons (uC (.int 11)) (uCons (uC (.int 12)) (uCons (uC (.int 13)) (uCons (uC (.int 0)) (uNil)))))))))) (uNil))))) (ugName 3) (uAsg (uBin fAdd (uVar 2) (uCall (Φ_law_some Cs) (uCons (uVar 0) (uCons (uVar 1) (uNil))))) (ugName 2))) (uSeq (uAsg (uCall (Φ_law_take Cs) (uCons (uVar 0) (uCons (uBin fAdd (uCall fLen (uCons (uVar 2) (uNil))) (uC (.int 1))) (uNil)))) (ugName 4)) (uSeq (uAsg (uCall (Φ_law_some Cs) (uCons (uVar 0) (uCons (uNew (uLst (uCons (uC (.str "")) (uCons (uC (.str "")) (uCons (uC (.str "")) (uCons (uC (.str "A")) (uCons (uC (.str "0")) (uCons (uC (.str " ")) (uCons (uC (.str "_")) (uCons (uC (.str "-")) (uCons (uC (.str "\n")) (uCons (uC (.str "`")) (uCons (uC (.str "{")) (uNil)))))))))))))) (uNil)))) (ugName 5)) (uRet (uBin fAdd (uBin fAdd (uSlS (uVar 2) (uNoP) (uPart (uVar 4))) (uVar 5)) (uSlS (uVar 2) (uPart (uVar 4)) (uNoP)))))))
def u_law_any (n : Nat) (Cs : List Addr) : US := uSeq (uAsg (uNew (uLst (uCons (uC .non) (uCons (uC (.bl true)) (uCons (uC (.bl false)) (uCons (uC (.int 0)) (uCons (uC (.int 1)) (uCons (uNeg (uC (.int 1))) (uCons (uBin fPow (uC (.int 10)) (uC (.int 39))) (uCons (uC (.str "")) (uCons (uC (.str "a")) (uCons (uC (.str "last")) (uCons (uTup (uNil)) (uCons (uNew (uLst (uNil))) (uCons (uNewD) (uCons (uTup (uCons (uC (.str "a")) (uCons (uC (.str "b")) (uNil)))) (uCons (uNew (uLst (uCons (uC (.str "a")) (uCons (uC (.str "b")) (uNil))))) (uCons (uTup (uCons (uC (.int 1)) (uCons (uC (.int 2)) (uNil)))) (uCons (uTup (uCons (uC (.int 2)) (uCons (uC (.int 4)) (uNil)))) (uNil)))))))))))))))))))) (ugName 2)) (uSeq (uDo (uExtF (uVar 2) (uLst (uCons (uTup (uCons (uC (.int 0)) (uCons (uC (.int 1)) (uNil)))) (uCons (uTup (uCons (uC (.int 0)) (uCons (uC (.int 2)) (uNil)))) (uCons (uTup (uCons (uC (.bl true)) (uCons (uC (.int 2)) (uNil)))) (uCons (uTup (uCons (uC (.int 1)) (uCons (uC (.bl true)) (uNil)))) (uCons (uTup (uCons (uNeg (uC (.int 3))) (uCons (uC (.int 2)) (uNil)))) (uCons (uTup (uCons (uC (.int 3)) (uCons (uNeg (uC (.int 2))) (uNil)))) (uCons (uTup (uCons (uC (.int 1)) (uCons (uC (.int 0)) (uNil)))) (uCons (uTup (uCons (uC (.str "a")) (uNil))) (uCons (uTup (uCons (uC (.str "a")) (uCons (uC (.str "b")) (uCons (uC (.str "c")) (uNil))))) (uCons (uTup (uCons (uC (.str "a")) (uCons (uC (.int 1)) (uNil)))) (uNil)))))))))))))) (uSeq (uDo (uExtF (uVar 2) (uLst (uCons (uNew (uLst (uCons (uC (.int 1)) (uCons (uC (.int 2)) (uNil))))) (uCons (uNew (uLst (uCons (uC (.int 0)) (uCons (uC (.int 1)) (uNil))))) (uCons (uExc (Cs.getD 1 0) ["line", "column"] (uCons (uC (.int 0)) (uCons (uC (.int 0)) (uNil)))) (uNil))))))) (uSeq (uIfS (uAnd (uTest (uBin fGt (uVar 1) (uC (.int 0)))) (uTest (uBin fEqA (uCall (Φ_law_take Cs) (uCons (uVar 0) (uCons (uC (.int 3)) (uNil)))) (uC (.int 0))))) (uRet (uOn fTupL (uLc (uwR1 (uCall (Φ_law_take Cs) (uCons (uVar 0) (uCons (uC (.int 4)) (uNil))))) (ugName 3) (uYes) (uCall (Φ_law_any n Cs) (uCons (uVar 0) (uCons (uBin fSub (uVar 1) (uC (.int 1))) (uNil)))) [3]))) (uNext)) (uRet (uCall (Φ_law_some Cs) (uCons (uVar 0) (uCons (uNew (uCatV (uVar 2) (uLst (uCons (uCall (Φ_law_word Cs) (uCons (uVar 0) (uNil))) (uCons (uCall (Φ_law_word Cs) (uCons (uVar 0) (uNil))) (uCons (uTup (uCons (uCall (Φ_law_word Cs) (uCons (uVar 0) (uNil))) (uCons (uCall (Φ_law_word Cs) (uCons (uVar 0) (uNil))) (uNil)))) (uNil))))))) (uNil))))))))
def u_law_number (Cs : List Addr) : US := uSeq (uAsg (uCall (Φ_law_some Cs) (uCons (uVar 0) (uCons (uNew (uLst (uCons (uCall (Φ_law_take Cs) (uCons (uVar 0) (uCons (uC (.int 13)) (uNil)))) (uCons (uBin fMul (uC (.int 360)) (uBin fAdd (uC (.int 1)) (uCall (Φ_law_take Cs) (uCons (uVar 0) (uCons (uC (.int 9)) (uNil)))))) (uCons (uBin fAdd (uBin fPow (uC (.int 10)) (uC (.int 30))) (uCall (Φ_law_take Cs) (uCons (uVar 0) (uCons (uBin fPow (uC (.int 10)) (uC (.int 6))) (uNil))))) (uCons (uC (.int 0)) (uCons (uC (.int 1)) (uNil)))))))) (uNil)))) (ugName 1)) (uRet (uIf (uTest (uBin fEqA (uCall (Φ_law_take Cs) (uCons (uVar 0) (uCons (uC (.int 2)) (uNil)))) (uC (.int 0)))) (uVar 1) (uBin fSub (uC (.int 0)) (uVar 1))))
def ulaw_r13 (Cs : List Addr) : US := uIfS (uNot (uTru (uCall (Φ_law_alike Cs) (uCons (uCall (Φreduced Cs) (uCons (uVar 9) (uCons (uVar 10) (uNil)))) (uCons (uTup (uCons (uBin fDivX (uCall fInt (uCons (uVar 9) (uNil))) (uVar 11)) (uCons (uBin fDivX (uCall fInt (uCons (uVar 10) (uNil))) (uVar 11)) (uNil)))) (uNil)))))) (uRet (uC (.bl false))) (uNext)
def ulaw_r12 (Cs : List Addr) : US := uAsg (uBin fMul (uCall (Φ_law_common Cs) (uCons (uCall fAbs (uCons (uVar 9) (uNil))) (uCons (uCall fAbs (uCons (uVar 10) (uNil))) (uNil)))) (uIf (uTest (uBin fGt (uVar 10) (uC (.int 0)))) (uC (.int 1)) (uNeg (uC (.int 1))))) (ugName 11)
def ulaw_r11 (Cs : List Addr) : US := uAsg (uIf (uTest (uBin fNeA (uVar 10) (uC (.int 0)))) (uVar 10) (uNeg (uC (.int 4)))) (ugName 10)
def ulaw_r10 (Cs : List Addr) : US := uPar [9, 10] (uCons (uCall (Φ_law_number Cs) (uCons (uVar 1) (uNil))) (uCons (uCall (Φ_law_number Cs) (uCons (uVar 1) (uNil))) (uNil)))
def ulaw_r8 (Cs : List Addr) : US := uIfS (uNot (uTru (uCall (Φ_law_alike Cs) (uCons (uNew (uCatV (uVar 4) (uLst (uCons (uCall (Φare_deeds Cs) (uCons (uVar 6) (uNil))) (uNil))))) (uCons (uNew (uCatV (uVar 5) (uLst (uCons (uVar 7) (uNil))))) (uNil)))))) (uRet (uC (.bl false))) (uNext)
def ulaw_r7 (Cs : List Addr) : US := uAsg (uAndV (uCall (fIsi (kinC Cs)) (uCons (uVar 6) (uCons (uC (.ty "tuple")) (uNil)))) (uEmpF (uLc (uwV (uVar 6)) (ugName 8) (uNot (uTru (uCall (Φ_law_is_deed Cs) (uCons (uVar 8) (uNil))))) (uVar 8) [8]))) (ugName 7)
def ulaw_r6 (Cs : List Addr) : US := uAsg (uCall (Φ_law_some Cs) (uCons (uVar 1) (uCons (uNew (uLst (uCons (uVar 3) (uCons (uTup (uCons (uVar 3) (uNil))) (uCons (uTup (uCons (uTup (uCons (uC (.str "a")) (uCons (uC (.str "b")) (uNil)))) (uCons (uVar 3) (uNil)))) (uCons (uNew (uLst (uCons (uVar 3) (uNil)))) (uCons (uTup (uCons (uVar 3) (uCons (uTup (uCons (uC (.str "x")) (uCons (uC (.str "y")) (uNil)))) (uNil)))) (uNil)))))))) (uNil)))) (ugName 6)
def ulaw_r5 (Cs : List Addr) : US := uAsg (uNew (uLst (uCons (uCall (Φ_law_is_int Cs) (uCons (uVar 3) (uNil))) (uCons (uCall (Φ_law_is_name Cs) (uCons (uVar 3) (uNil))) (uCons (uCall (Φ_law_is_fraction Cs) (uCons (uVar 3) (uNil))) (uCons (uCall (Φ_law_is_deed Cs) (uCons (uVar 3) (uNil))) (uNil))))))) (ugName 5)
def ulaw_r4 (Cs : List Addr) : US := uAsg (uNew (uLst (uCons (uCall (Φis_integer Cs) (uCons (uVar 3) (uNil))) (uCons (uCall (Φis_name Cs) (uCons (uVar 3) (uNil))) (uCons (uCall (Φis_fraction Cs) (uCons (uVar 3) (uNil))) (uCons (uCall (Φis_deed Cs) (uCons (uVar 3) (uNil))) (uNil))))))) (ugName 4)
def ulaw_r3 (Cs : List Addr) : US := uAsg (uCall (Φ_law_some Cs) (uCons (uVar 1) (uCons (uNew (uLst (uCons (uCall (Φ_law_any 3 Cs) (uCons (uVar 1) (uCons (uC (.int 2)) (uNil)))) (uCons (uCall (Φ_law_word Cs) (uCons (uVar 1) (uNil))) (uCons (uTup (uCons (uCall (Φ_law_number Cs) (uCons (uVar 1) (uNil))) (uCons (uCall (Φ_law_number Cs) (uCons (uVar 1) (uNil))) (uNil)))) (uNil)))))) (uNil)))) (ugName 3)
def ulaw_r2 (Cs : List Addr) : US := uFor (uwR1 (uC (.int 12))) (ugName 2) (uSeq (ulaw_r3 Cs) (uSeq (ulaw_r4 Cs) (uSeq (ulaw_r5 Cs) (uSeq (ulaw_r6 Cs) (uSeq (ulaw_r7 Cs) (uSeq (ulaw_r8 Cs) (uSeq (ulaw_r10 Cs) (uSeq (ulaw_r11 Cs) (uSeq (ulaw_r12 Cs) (ulaw_r13 Cs))))))))))
def ulaw_r1 (Cs : List Addr) : US := uAsg (uCall (Φ_law_bag Cs) (uCons (uVar 0) (uNil))) (ugName 1)
def ulaw (Cs : List Addr) : US := uSeq (ulaw_r1 Cs) (uSeq (ulaw_r2 Cs) (uRet (uC (.bl true))))
end K01

set_option Elab.async false
set_option linter.all false
set_option maxRecDepth 100000
set_option maxHeartbeats 4000000
namespace K01
open PySem L2 Y

section
variable {Cs : List Addr} {S : Sto}

theorem kitB_tab : (["NoneType", "bool", "int", "str", "tuple", "list", "dict"].all fun t => kinds.all fun T => kitB t T == some (t == T || (t == "bool" && T == "int"))) = true := by decide +kernel
def isiU (S : Sto) (x : U) (T : String) : Bool := match U.tyn S x with
  | some t => t == T || (t == "bool" && T == "int")
  | none => false
theorem isi_any {x : U} (h : AnyV Cs S x) {T : String} (hT : T ∈ kinds) {Q : UK} (q : Q (.bl (isiU S x T)) S) : fIsi (kinC Cs) [x, .ty T] S Q := by
  refine ⟨x, T, isiU S x T, rfl, ?_, q⟩
  have tab : ∀ t ∈ ["NoneType", "bool", "int", "str", "tuple", "list", "dict"], kitB t T = some (t == T || (t == "bool" && T == "int")) := fun t ht => by
    have h1 := List.all_eq_true.mp kitB_tab t ht
    exact beq_iff_eq.mp (List.all_eq_true.mp h1 T hT)
  have some_of : ∀ t, U.tyn S x = some t → t ∈ ["NoneType", "bool", "int", "str", "tuple", "list", "dict"] → ∃ t, U.tyn S x = some t ∧ kitB t T = some (isiU S x T) := fun t e m => ⟨t, e, by rw [tab t m]; unfold isiU; rw [e]⟩
  cases h with
  | non => exact .inl (some_of _ rfl (by decide))
  | bl b => exact .inl (some_of _ rfl (by decide))
  | int i h => exact .inl (some_of _ rfl (by decide))
  | str z h => exact .inl (some_of _ rfl (by decide))
  | tup us hl h => exact .inl (some_of _ rfl (by decide))
  | loc a h =>
    cases e : S a with
    | none => exact absurd e h
    | some o =>
      cases o with
      | lst us => exact .inl (some_of "list" (by simp [U.tyn, e]) (by decide))
      | dct us => exact .inl (some_of "dict" (by simp [U.tyn, e]) (by decide))
  | exc C fs h =>
    refine .inr ⟨C, fs, rfl, ?_⟩
    unfold kinC isiU
    rw [if_pos ⟨h, hT⟩]
    rfl
theorem isiU_some {x : U} {t T : String} (h : U.tyn S x = some t) : isiU S x T = (t == T || (t == "bool" && T == "int")) := by unfold isiU; rw [h]
theorem isiU_loc {a : Addr} {T : String} (h : T ∈ ["int", "bool", "str", "tuple"]) : isiU S (.loc a) T = false := by
  have key : ∀ t ∈ ["list", "dict"], (t == T || (t == "bool" && T == "int")) = false := by
    simp only [List.mem_cons, List.not_mem_nil, or_false] at h
    rcases h with rfl | rfl | rfl | rfl <;> decide
  cases e : S a with
  | none => simp [isiU, U.tyn, e]
  | some o =>
    cases o with
    | lst us => rw [isiU_some (t := "list") (by simp [U.tyn, e])]; exact key _ (by decide)
    | dct us => rw [isiU_some (t := "dict") (by simp [U.tyn, e])]; exact key _ (by decide)

theorem vis_integer_core {x : U} (ha : AnyV Cs S x) {P : UK} (hp : P (.bl (isIntU x)) S) : fIsi (kinC Cs) [x, .ty "int"] S fun y S1 => ∃ k, y = .bl k ∧ if k = true then (fIsi (kinC Cs) [x, .ty "bool"] S1 fun z S2 => ∃ k, z = .bl k ∧ P (.bl (!k)) S2) else P (.bl false) S1 := by
  refine isi_any ha (by decide) ⟨_, rfl, ?_⟩
  have e : isIntU x = (isiU S x "int" && !isiU S x "bool") := by
    cases ha with
    | loc a h => rw [isiU_loc (by decide)]; rfl
    | _ => rfl
  cases h : isiU S x "int" with
  | true =>
    simp only [if_true]
    refine isi_any ha (by decide) ⟨_, rfl, ?_⟩
    rw [h] at e
    rw [e] at hp
    simpa using hp
  | false =>
    simp only [Bool.false_eq_true, if_false]
    rw [h] at e
    rw [e] at hp
    exact hp
theorem vis_integer : ∀ us S P, Φis_integer Cs us S P → uis_integer Cs (rtD P) (ustart 1 us) S := by
  rintro us S P ⟨x, rfl, ha, hp⟩
  exact vis_integer_core ha hp
theorem v_law_is_int : ∀ us S P, Φ_law_is_int Cs us S P → u_law_is_int Cs (rtD P) (ustart 1 us) S := by
  rintro us S P ⟨x, rfl, ha, hp⟩
  exact vis_integer_core ha hp
end
end K01

set_option Elab.async false
set_option linter.all false
set_option maxRecDepth 100000
set_option maxHeartbeats 4000000
namespace K01
open PySem L2 Y
section
variable {Cs : List Addr} {S : Sto}
theorem isi_str {x : U} (h : AnyV Cs S x) : isiU S x "str" = (match x with | .str _ => true | _ => false) := by
  cases h with
  | loc a h => exact isiU_loc (by decide)
  | _ => rfl
theorem isi_tup {x : U} (h : AnyV Cs S x) : isiU S x "tuple" = (match x with | .tup _ => true | _ => false) := by
  cases h with
  | loc a h => exact isiU_loc (by decide)
  | _ => rfl
theorem ge_a {c : Nat} : decide ([c] < (Str.ofString "a").cps.toList) = decide (c < 97) := by
  show decide ([c] < [97]) = _
  rw [lt_one]
theorem le_z {c : Nat} : decide ((Str.ofString "z").cps.toList < [c]) = decide (122 < c) := by
  show decide ([122] < [c]) = _
  rw [lt_one]
def aToZ : U → Bool
  | .str y => decide (97 ≤ y.cps.toList.headD 0) && decide (y.cps.toList.headD 0 ≤ 122)
  | _ => false
theorem all_sgn (z : Str) : (sgnU z).all aToZ = z.cps.toList.all fun c => decide (97 ≤ c) && decide (c ≤ 122) := by
  unfold sgnU
  rw [List.all_map]
  rfl
theorem sgn_len {z : Str} : (sgnU z).length = z.length := by simp [sgnU, Str.length]
theorem big {n : Nat} (h : n ≤ 1000) : n ≤ sizeLine := by unfold sizeLine; omega
theorem is_name_core {x : U} (ha : AnyV Cs S x) {P : UK} (hp : P (.bl (isNameU x)) S) : uis_name Cs (rtD P) (ustart 2 [x]) S := by
  simp only [uis_name]
  walk_at "ux"
  refine isi_any ha (by decide) ?_
  walk_at "ux"
  rw [isi_str ha]
  cases ha with
  | str z hz =>
    have hl : z.length ≤ sizeLine := big (by omega)
    walk_at "ux"
    refine len_str hl ?_
    walk_at "ux"
    by_cases h1 : (1 : Int) ≤ z.length
    · rw [decide_eq_true h1]
      walk_at "ux"
      by_cases h2 : (z.length : Int) ≤ 12
      · rw [decide_eq_true h2]
        walk_at "ux"
        refine ⟨by rw [sgn_len]; exact hl, ?_⟩
        refine lcT_map (fun u => .bl (aToZ u)) trivial _ ?_ ?_
        · intro u hu Q1 q
          obtain ⟨c, hc, rfl⟩ := List.mem_map.mp hu
          walk_at "ux"
          rw [ge_a, le_z]
          by_cases h3 : c < 97
          · rw [decide_eq_true h3]
            walk_at "ux"
            have e : decide (97 ≤ c) = false := decide_eq_false (by omega)
            simpa [aToZ, e] using q
          · rw [decide_eq_false h3]
            walk_at "ux"
            have e : decide (97 ≤ c) = true := decide_eq_true (by omega)
            have e2 : (!decide (122 < c)) = decide (c ≤ 122) := by rw [← decide_not]; congr 1; exact propext Nat.not_lt
            rw [e2]
            simpa [aToZ, e] using q
        · refine all_map ?_
          rw [all_sgn]
          have e1 : decide (1 ≤ z.length) = true := decide_eq_true (by omega)
          have e2 : decide (z.length ≤ 12) = true := decide_eq_true (by omega)
          simpa [isNameU, nameS, e1, e2] using hp
      · rw [decide_eq_false h2]
        walk_at "ux"
        have e2 : decide (z.length ≤ 12) = false := decide_eq_false (by omega)
        simpa [isNameU, nameS, e2] using hp
    · rw [decide_eq_false h1]
      walk_at "ux"
      have e2 : decide (1 ≤ z.length) = false := decide_eq_false (by omega)
      simpa [isNameU, nameS, e2] using hp
  | _ => exact hp
theorem vis_name : ∀ us S P, Φis_name Cs us S P → uis_name Cs (rtD P) (ustart 2 us) S := by
  rintro us S P ⟨x, rfl, ha, hp⟩
  exact is_name_core ha hp
theorem in_alpha {c : Nat} : decide (c ∈ (Str.ofString "abcdefghijklmnopqrstuvwxyz").cps.toList) = (decide (97 ≤ c) && decide (c ≤ 122)) := by
  have e : (Str.ofString "abcdefghijklmnopqrstuvwxyz").cps.toList = (List.range 26).map (97 + ·) := by decide +kernel
  rw [e, ← Bool.decide_and]
  congr 1
  refine propext ⟨fun h => ?_, fun h => ?_⟩
  · obtain ⟨k, hk, rfl⟩ := List.mem_map.mp h
    have := List.mem_range.mp hk
    omega
  · exact List.mem_map.mpr ⟨c - 97, List.mem_range.mpr (by omega), by omega⟩
theorem law_is_name_core {x : U} (ha : AnyV Cs S x) {P : UK} (hp : P (.bl (isNameU x)) S) : u_law_is_name Cs (rtD P) (ustart 2 [x]) S := by
  simp only [u_law_is_name]
  walk_at "ux"
  refine isi_any ha (by decide) ?_
  walk_at "ux"
  rw [isi_str ha]
  cases ha with
  | str z hz =>
    have hl : z.length ≤ sizeLine := big (by omega)
    walk_at "ux"
    refine len_str hl ?_
    walk_at "ux"
    by_cases h1 : (1 : Int) ≤ z.length
    · rw [decide_eq_true h1]
      walk_at "ux"
      by_cases h2 : (z.length : Int) ≤ 12
      · rw [decide_eq_true h2]
        walk_at "ux"
        refine ⟨by rw [sgn_len]; exact hl, ?_⟩
        refine lcT_filter (fun u => !aToZ u) id trivial _ ?_ ?_
        · intro u hu Q q
          obtain ⟨c, hc, rfl⟩ := List.mem_map.mp hu
          walk_at "ux"
          refine ⟨c, _, rfl, rfl, ?_⟩
          walk_at "ux"
          rw [in_alpha]
          refine q _ fun Q1 _ h => h
        · rw [List.map_id, filter_none]
          simp only [Bool.not_not]
          rw [all_sgn]
          have e1 : decide (1 ≤ z.length) = true := decide_eq_true (by omega)
          have e2 : decide (z.length ≤ 12) = true := decide_eq_true (by omega)
          simpa [isNameU, nameS, e1, e2] using hp
      · rw [decide_eq_false h2]
        walk_at "ux"
        have e2 : decide (z.length ≤ 12) = false := decide_eq_false (by omega)
        simpa [isNameU, nameS, e2] using hp
    · rw [decide_eq_false h1]
      walk_at "ux"
      have e2 : decide (1 ≤ z.length) = false := decide_eq_false (by omega)
      simpa [isNameU, nameS, e2] using hp
  | _ => exact hp
theorem v_law_is_name : ∀ us S P, Φ_law_is_name Cs us S P → u_law_is_name Cs (rtD P) (ustart 2 us) S := by
  rintro us S P ⟨x, rfl, ha, hp⟩
  exact law_is_name_core ha hp
theorem v_is_tuple_of : ∀ us S P, Φ_is_tuple_of Cs us S P → u_is_tuple_of Cs (rtD P) (ustart 2 us) S := by
  rintro us S P ⟨x, n, rfl, ha, hp⟩
  simp only [u_is_tuple_of]
  walk_at "ux"
  refine isi_any ha (by decide) ?_
  walk_at "ux"
  rw [isi_tup ha]
  cases ha with
  | tup us hl h =>
    walk_at "ux"
    exact eqA_int hp
  | _ => exact hp
theorem AnyV.part {us : List U} (h : AnyV Cs S (.tup us)) {u : U} (hu : u ∈ us) : AnyV Cs S u := by
  cases h with
  | tup us hl h => exact h u hu
theorem isTup2 {x : U} (h : isTupU x 2 = true) : ∃ a b, x = .tup [a, b] := by
  unfold isTupU at h
  split at h
  · rename_i us
    have := of_decide_eq_true h
    match us, this with
    | [a, b], _ => exact ⟨a, b, rfl⟩
    | [], h => simp at h
    | [_], h => simp at h
    | _ :: _ :: _ :: _, h => simp at h; omega
  · cases h
theorem notTup2F {x : U} (h : isTupU x 2 = false) : isFracU x = false := by
  unfold isFracU
  split
  · simp [isTupU] at h
  · rfl
theorem notTup2D {x : U} (h : isTupU x 2 = false) : isDeedU x = false := by
  unfold isDeedU
  split
  · simp [isTupU] at h
  · rfl
theorem isInt_of {x : U} (h : isIntU x = true) : ∃ i, x = .int i := by
  unfold isIntU at h
  split at h
  · exact ⟨_, rfl⟩
  · cases h
theorem notIntF {a b : U} (h : isIntU a = false ∨ isIntU b = false) : isFracU (.tup [a, b]) = false := by
  unfold isFracU
  split
  · rename_i e
    cases e
    rcases h with h | h <;> cases h
  · rfl
theorem vis_fraction : ∀ us S P, Φis_fraction Cs us S P → uis_fraction Cs (rtD P) (ustart 1 us) S := by
  rintro us S P ⟨x, rfl, ha, hp⟩
  simp only [uis_fraction]
  walk_at "ux"
  refine ⟨x, 2, rfl, ha, ?_⟩
  walk_at "ux"
  cases h2 : isTupU x 2 with
  | false => walk_at "ux"; rw [notTup2F h2] at hp; exact hp
  | true =>
    walk_at "ux"
    obtain ⟨a, b, rfl⟩ := isTup2 h2
    walk_at "ux"
    refine ⟨a, rfl, ha.part (by simp), ?_⟩
    walk_at "ux"
    cases h3 : isIntU a with
    | false => walk_at "ux"; rw [notIntF (.inl h3)] at hp; exact hp
    | true =>
      walk_at "ux"
      refine ⟨b, rfl, ha.part (by simp), ?_⟩
      walk_at "ux"
      cases h4 : isIntU b with
      | false => walk_at "ux"; rw [notIntF (.inr h4)] at hp; exact hp
      | true =>
        obtain ⟨n, rfl⟩ := isInt_of h3
        obtain ⟨d, rfl⟩ := isInt_of h4
        walk_at "ux"
        by_cases h5 : 1 ≤ d
        · rw [decide_eq_true h5]
          walk_at "ux"
          refine eqA_int ?_
          have e : decide (((Nat.gcd n.natAbs d.natAbs : Nat) : Int) = 1) = decide (Nat.gcd n.natAbs d.natAbs = 1) := by congr 1; exact propext (by omega)
          rw [e]
          simpa [isFracU, h5] using hp
        · rw [decide_eq_false h5]
          walk_at "ux"
          simpa [isFracU, h5] using hp
theorem vis_deed : ∀ us S P, Φis_deed Cs us S P → uis_deed Cs (rtD P) (ustart 1 us) S := by
  rintro us S P ⟨x, rfl, ha, hp⟩
  simp only [uis_deed]
  walk_at "ux"
  refine ⟨x, 2, rfl, ha, ?_⟩
  walk_at "ux"
  cases h2 : isTupU x 2 with
  | false => walk_at "ux"; rw [notTup2D h2] at hp; exact hp
  | true =>
    walk_at "ux"
    obtain ⟨a, b, rfl⟩ := isTup2 h2
    walk_at "ux"
    refine ⟨a, rfl, ha.part (by simp), ?_⟩
    walk_at "ux"
    cases h3 : isNameU a with
    | false => walk_at "ux"; simpa [isDeedU, h3] using hp
    | true =>
      walk_at "ux"
      refine ⟨b, rfl, ha.part (by simp), ?_⟩
      simpa [isDeedU, h3] using hp
theorem vare_deeds : ∀ us S P, Φare_deeds Cs us S P → uare_deeds Cs (rtD P) (ustart 2 us) S := by
  rintro us S P ⟨x, rfl, ha, hp⟩
  simp only [uare_deeds]
  walk_at "ux"
  refine isi_any ha (by decide) ?_
  walk_at "ux"
  rw [isi_tup ha]
  cases ha with
  | tup us hl h =>
    walk_at "ux"
    refine ⟨us, rfl, big (by omega), ?_⟩
    refine lcT_map (fun u => .bl (isDeedU u)) trivial _ ?_ (all_map hp)
    intro u hu Q1 q
    walk_at "ux"
    exact ⟨u, rfl, h u hu, q⟩
  | _ => exact hp
end
end K01

set_option Elab.async false
set_option linter.all false
set_option maxRecDepth 100000
set_option exponentiation.threshold 1000
set_option maxHeartbeats 4000000
namespace K01
open PySem L2 Y
section
variable {Cs : List Addr} {S : Sto}
theorem gcd_small {n d : Int} (hd : d ≠ 0) (h : d.natAbs < 2 ^ 150) : Nat.gcd n.natAbs d.natAbs < 2 ^ 150 ∧ 0 < Nat.gcd n.natAbs d.natAbs := by
  have h0 : 0 < d.natAbs := by omega
  exact ⟨Nat.lt_of_le_of_lt (Nat.gcd_le_right _ h0) h, Nat.gcd_pos_of_pos_right _ h0⟩
theorem cdivx {i j : Int} (h0 : j ≠ 0) (h : j.natAbs < 2 ^ 150) : CDivX i j := ⟨h0, by have := log2_lt (by omega) h; omega⟩
theorem cdivw {i j : Int} (h0 : 0 < j) (h : j.natAbs < 2 ^ 150) : CDivW i j := ⟨h0, by have := log2_lt (by omega) h; omega⟩
theorem vreduced : ∀ us S P, Φreduced Cs us S P → ureduced Cs (rtD P) (ustart 3 us) S := by
  rintro us S P ⟨n, d, rfl, hd, hn, hdd, hp⟩
  simp only [ureduced]
  walk_at "ux"
  obtain ⟨h1, h2⟩ := gcd_small (n := n) hd hdd
  by_cases h : d < 0
  · rw [decide_eq_true h]
    walk_at "ux"
    refine ⟨cdivx (by omega) (by omega), cdivx (by omega) (by omega), by decide, ?_⟩
    simpa [redU, h] using hp
  · rw [decide_eq_false h]
    walk_at "ux"
    refine ⟨cdivx (by omega) (by omega), cdivx (by omega) (by omega), by decide, ?_⟩
    simpa [redU, h] using hp
theorem v_law_common : ∀ us S P, Φ_law_common Cs us S P → u_law_common Cs (rtD P) (ustart 3 us) S := by
  rintro us S P ⟨n, d, rfl, hn, hd, h1, h2, hp⟩
  obtain ⟨a, rfl⟩ := Int.eq_ofNat_of_zero_le hn
  obtain ⟨b, rfl⟩ := Int.eq_ofNat_of_zero_le hd
  simp only [u_law_common]
  walk_at "ux"
  simp only [uFor]
  walk_at "ux"
  refine ⟨by decide, by decide, ?_⟩
  refine turns_inv (fun i σ S' => S' = S ∧ ∃ a' b' t, σ = [some (.int (a' : Nat)), some (.int (b' : Nat)), t] ∧ Euc (Nat.gcd a b) (2 ^ 150) i a' b') _ 0 _ S (fun _ _ _ _ _ => trivial) ?_ ?_ ?_
  · rintro j u σ S' K hu ⟨rfl, a', b', t, rfl, he⟩ hK
    walk_at "ux"
    refine eqA_int ?_
    walk_at "ux"
    by_cases h0 : (b' : Int) = 0
    · rw [decide_eq_true h0]
      walk_at "ux"
      have h0' : b' = 0 := by omega
      have := he.1
      rw [h0', Nat.gcd_zero_right] at this
      rw [this]
      simpa using hp
    · rw [decide_eq_false h0]
      walk_at "ux"
      refine ⟨by omega, hK _ _ ⟨rfl, b', a' % b', some u, ?_, he.step (by omega)⟩⟩
      simp
  · rintro σ S' ⟨rfl, a', b', t, rfl, he⟩
    walk_at "ux"
    have := he.done (by simp [rng_len]) (by simp only [rng_len]; decide)
    rw [this]
    simpa using hp
  · exact ⟨rfl, a, b, none, rfl, rfl, .inl ⟨rfl, by simpa using h2⟩⟩
theorem v_law_is_int' {x : U} (ha : AnyV Cs S x) {P : UK} (hp : P (.bl (isIntU x)) S) : Φ_law_is_int Cs [x] S P := ⟨x, rfl, ha, hp⟩
theorem isLen {us : List U} {n : Nat} : decide ((us.length : Int) = n) = decide (us.length = n) := by congr 1; exact propext (by omega)
theorem fracU_len {us : List U} (h : us.length ≠ 2) : isFracU (.tup us) = false := by
  unfold isFracU
  split
  · rename_i e; cases e; simp at h
  · rfl
theorem deedU_len {us : List U} (h : us.length ≠ 2) : isDeedU (.tup us) = false := by
  unfold isDeedU
  split
  · rename_i e; cases e; simp at h
  · rfl
theorem len2 {us : List U} (h : us.length = 2) : ∃ a b, us = [a, b] := by
  match us, h with
  | [a, b], _ => exact ⟨a, b, rfl⟩
theorem AnyV.int' {i : Int} (h : AnyV Cs S (.int i)) : i.natAbs < 2 ^ 150 := by cases h with | int i h => exact h
theorem v_law_is_fraction : ∀ us S P, Φ_law_is_fraction Cs us S P → u_law_is_fraction Cs (rtD P) (ustart 1 us) S := by
  rintro us S P ⟨x, rfl, ha, hp⟩
  simp only [u_law_is_fraction]
  walk_at "ux"
  refine isi_any ha (by decide) ?_
  walk_at "ux"
  rw [isi_tup ha]
  have ha' := ha
  cases ha with
  | tup us hl h =>
    walk_at "ux"
    refine neA_int ?_
    walk_at "ux"
    by_cases hn : (us.length : Int) = 2
    · rw [decide_eq_true hn]
      walk_at "ux"
      obtain ⟨a, b, rfl⟩ := len2 (us := us) (by omega)
      walk_at "ux"
      refine ⟨a, rfl, h a (by simp), ?_⟩
      walk_at "ux"
      cases h3 : isIntU a with
      | false => walk_at "ux"; rw [notIntF (.inl h3)] at hp; exact hp
      | true =>
        walk_at "ux"
        refine ⟨b, rfl, h b (by simp), ?_⟩
        walk_at "ux"
        cases h4 : isIntU b with
        | false => walk_at "ux"; rw [notIntF (.inr h4)] at hp; exact hp
        | true =>
          obtain ⟨n, rfl⟩ := isInt_of h3
          obtain ⟨d, rfl⟩ := isInt_of h4
          walk_at "ux"
          by_cases h5 : 1 ≤ d
          · rw [decide_eq_true h5]
            walk_at "ux"
            have b1 := (h (.int n) (by simp)).int'
            have b2 := (h (.int d) (by simp)).int'
            refine ⟨_, _, rfl, by omega, by omega, by omega, by omega, ?_⟩
            refine eqA_int ?_
            have e : decide (((Nat.gcd ((n.natAbs : Int)).natAbs d.natAbs : Nat) : Int) = 1) = decide (Nat.gcd n.natAbs d.natAbs = 1) := by
              rw [Int.natAbs_natCast]
              congr 1; exact propext (by omega)
            rw [e]
            simpa [isFracU, h5] using hp
          · rw [decide_eq_false h5]
            walk_at "ux"
            simpa [isFracU, h5] using hp
    · rw [decide_eq_false hn]
      walk_at "ux"
      rw [fracU_len (by omega)] at hp
      exact hp
  | _ => exact hp
theorem v_law_is_deed : ∀ us S P, Φ_law_is_deed Cs us S P → u_law_is_deed Cs (rtD P) (ustart 1 us) S := by
  rintro us S P ⟨x, rfl, ha, hp⟩
  simp only [u_law_is_deed]
  walk_at "ux"
  refine isi_any ha (by decide) ?_
  walk_at "ux"
  rw [isi_tup ha]
  cases ha with
  | tup us hl h =>
    walk_at "ux"
    refine eqA_int ?_
    walk_at "ux"
    by_cases hn : (us.length : Int) = 2
    · rw [decide_eq_true hn]
      walk_at "ux"
      obtain ⟨a, b, rfl⟩ := len2 (us := us) (by omega)
      walk_at "ux"
      refine ⟨a, rfl, h a (by simp), ?_⟩
      walk_at "ux"
      cases h3 : isNameU a with
      | false => walk_at "ux"; simpa [isDeedU, h3] using hp
      | true =>
        walk_at "ux"
        refine ⟨b, rfl, h b (by simp), ?_⟩
        simpa [isDeedU, h3] using hp
    · rw [decide_eq_false hn]
      walk_at "ux"
      rw [deedU_len (by omega)] at hp
      exact hp
  | _ => exact hp
theorem eqv_refl_lay {d : PyData} (h : d.canLay0 = true) : PyData.eqv d d = true := PySem.SeqAt.eqv_refl d h
theorem v_law_alike : ∀ us S P, Φ_law_alike Cs us S P → u_law_alike Cs (rtD P) (ustart 2 us) S := by
  rintro us S P ⟨x, y, d, rfl, hx, hy, hs, hw, hp⟩
  simp only [u_law_alike]
  walk_at "ux"
  have hc : d.canLay0 = true := by
    unfold SeqAt.shaped at hs
    rw [Bool.and_eq_true] at hs
    exact hs.1
  refine .inr ⟨d, d, hx, hy, hs, hs, ?_⟩
  simp only [Bool.false_eq_true, if_false, eqv_refl_lay hc]
  walk_at "ux"
  refine ⟨x, d, rfl, hx, hw, y, d, rfl, hy, hw, .inl ⟨true, by simp [U.sc], hp⟩⟩
end
end K01

set_option Elab.async false
set_option linter.all false
set_option maxRecDepth 100000
set_option exponentiation.threshold 1000
set_option maxHeartbeats 4000000
namespace K01
open PySem L2 Y
section
variable {Cs : List Addr} {S S' S'' : Sto} {b : Addr}
theorem IsBag.live (h : IsBag S b) : S b ≠ none := by
  obtain ⟨n0, n1, n2, c, cs, h1, _⟩ := h
  rw [h1]; exact fun z => nomatch z
theorem But.refl : But S S b := fun _ _ _ => rfl
theorem But.trans (h : But S S' b) (h' : But S' S'' b) : But S S'' b := fun a n l => by
  rw [h' a n (by rw [h a n l]; exact l), h a n l]
theorem But.new {p : Addr} {o : Ob} (hp : S p = none) : But S (sput S p o) b := fun a n l => put_keep hp l
theorem But.old {o : Ob} : But S (sput S b o) b := fun a n l => sput_ne n
theorem IsBag.new (h : IsBag S b) {p : Addr} {o : Ob} (hp : S p = none) : IsBag (sput S p o) b := by
  obtain ⟨n0, n1, n2, c, cs, h1, h2, h3⟩ := h
  refine ⟨n0, n1, n2, c, cs, ?_, ?_, h3⟩
  · rw [put_keep hp (by rw [h1]; exact fun z => nomatch z)]; exact h1
  · rw [put_keep hp (by rw [h2]; exact fun z => nomatch z)]; exact h2
theorem But.newR {p : Addr} {o : Ob} (h : But S S' b) (hp : S' p = none) : But S (sput S' p o) b := h.trans (But.new hp)
theorem But.live (h : But S S' b) (hb : IsBag S' b) {a : Addr} (l : S a ≠ none) : S' a ≠ none := by
  by_cases e : a = b
  · subst e; exact hb.live
  · rw [h a e l]; exact l
theorem AnyV.mono (h : ∀ a, S a ≠ none → S' a ≠ none) {x : U} (hx : AnyV Cs S x) : AnyV Cs S' x := by
  induction hx with
  | non => exact .non
  | bl b => exact .bl b
  | int i h => exact .int i h
  | str x h => exact .str x h
  | tup us hl _ ih => exact .tup us hl ih
  | loc a l => exact .loc a (h a l)
  | exc C fs h => exact .exc C fs h
theorem AnyV.but (h : But S S' b) (hb : IsBag S' b) {x : U} (hx : AnyV Cs S x) : AnyV Cs S' x := hx.mono fun a l => h.live hb l
theorem cut_63 {ns : List Int} (h : ns.length ≤ 63) : cutU (ns.map U.int) none (some 63) = ns.map U.int := by
  unfold cutU HT.sIx
  have e : min (63 : Int).toNat ns.length = ns.length := by
    have : (63 : Int).toNat = 63 := rfl
    omega
  simp only [List.length_map, List.drop_zero, Nat.sub_zero]
  rw [if_neg (by omega), e]
  exact List.take_of_length_le (by simp)
theorem v_law_bag : ∀ us S P, Φ_law_bag Cs us S P → u_law_bag Cs (rtD P) (ustart 2 us) S := by
  rintro us S P ⟨ns, rfl, hl, hp⟩
  simp only [u_law_bag]
  walk_at "ux"
  refine ⟨ns.map U.int, rfl, by rw [cut_63 hl]; simp; exact big (by omega), ?_⟩
  rw [cut_63 hl]
  refine lcT_map (fun u => match u with | .int i => .int i.natAbs | u => u) trivial _ ?_ ?_
  · intro u hu Q1 q
    obtain ⟨i, _, rfl⟩ := List.mem_map.mp hu
    walk_at "ux"
    exact q
  · intro c hc
    refine ⟨by decide, fun b hb => ?_⟩
    have hbc : b ≠ c := fun e => by subst e; rw [sput_same] at hb; cases hb
    refine hp b _ ⟨0, 1234567891, 0, c, ns.map fun i => (i.natAbs : Int), sput_same, ?_, hbc, by omega, by omega, by omega, by omega, by simpa using hl, ?_⟩ ?_
    · rw [sput_ne (Ne.symm hbc), sput_same]
      simp [List.map_map, Function.comp_def]
    · intro x hx
      obtain ⟨i, _, rfl⟩ := List.mem_map.mp hx
      omega
    · intro a l
      rw [put_keep hb (live_put l), put_keep hc l]
theorem IsBag.mk' {n0 n1 n2 : Int} {c : Addr} {cs : List Int} (h1 : S b = some (.lst [.int n0, .int n1, .int n2, .loc c])) (h2 : S c = some (.lst (cs.map U.int))) (h3 : b ≠ c) (h : 0 ≤ n0 ∧ 0 ≤ n1 ∧ n1 < 2147483647 ∧ 0 ≤ n2 ∧ cs.length ≤ 63 ∧ ∀ x ∈ cs, 0 ≤ x) : IsBag S b := ⟨n0, n1, n2, c, cs, h1, h2, h3, h⟩
/-- the second half of a take -/
theorem take_end {n0 n1 n2 m : Int} {c : Addr} {cs : List Int} {o2 o3 o4 : Option U} (h1 : S b = some (.lst [.int n0, .int n1, .int n2, .loc c])) (h2 : S c = some (.lst (cs.map U.int))) (h3 : b ≠ c) (h : 0 ≤ n0 ∧ 0 ≤ n1 ∧ n1 < 2147483647 ∧ 0 ≤ n2 ∧ cs.length ≤ 63 ∧ ∀ x ∈ cs, 0 ≤ x)
    (hm : 0 < m) (hm2 : m.natAbs < 2 ^ 150) {P : UK} (hp : ∀ r S', 0 ≤ r → r < m → IsBag S' b → But S S' b → P (.int r) S') :
    (uSeq (uIfS (uTest (uBin fGt (uBin fIx (uVar 0) (uC (.int 0))) (uC (.int 0)))) (uSeq (uAsg (uBin fMod (uCall fInt (uCons (uBin fIx (uVar 0) (uC (.int 0))) (uNil))) (uVar 1)) (ugName 4)) (uSeq (uSetL (uVar 0) (uC (.int 0)) (uBin fDivW (uCall fInt (uCons (uBin fIx (uVar 0) (uC (.int 0))) (uNil))) (uVar 1))) (uRet (uVar 4)))) (uNext)) (uSeq (uAsg (uBin fMod (uCall fInt (uCons (uBin fMul (uBin fAdd (uBin fIx (uVar 0) (uC (.int 1))) (uC (.int 1))) (uC (.int 39373))) (uNil))) (uC (.int 1000000007))) (ugName 5)) (uSeq (uAsg (uBin fMod (uCall fInt (uCons (uBin fMul (uBin fMod (uCall fInt (uCons (uBin fMul (uVar 5) (uVar 5)) (uNil))) (uC (.int 998244353))) (uC (.int 30011))) (uNil))) (uC (.int 998244353))) (ugName 6)) (uRet (uBin fMod (uCall fInt (uCons (uBin fDivW (uVar 6) (uC (.int 7))) (uNil))) (uVar 1)))))) (rtD P) [some (.loc b), some (.int m), o2, o3, o4, none, none] S := by
  walk_at "ux"
  refine ixE_lst h1 atI_0 ?_
  walk_at "ux"
  by_cases h0 : 0 < n0
  · rw [decide_eq_true h0]
    walk_at "ux"
    refine ixE_lst h1 atI_0 ?_
    walk_at "ux"
    refine ⟨hm, ixE_lst h1 atI_0 ?_⟩
    walk_at "ux"
    refine ⟨cdivw hm hm2, b, 0, _, 0, rfl, rfl, h1, rfl, ?_⟩
    refine hp _ _ (Int.emod_nonneg _ (by omega)) (Int.emod_lt_of_pos _ hm) (IsBag.mk' sput_same (by rw [sput_ne (Ne.symm h3)]; exact h2) h3 ⟨Int.ediv_nonneg h.1 (by omega), h.2⟩) But.old
  · rw [decide_eq_false h0]
    walk_at "ux"
    refine ixE_lst h1 atI_1 ?_
    walk_at "ux"
    refine ⟨.inl (by omega), by decide, ?_⟩
    have q1 : 0 ≤ ((n1 + 1) * 39373) % 1000000007 := Int.emod_nonneg _ (by decide)
    have q2 : ((n1 + 1) * 39373) % 1000000007 < 1000000007 := Int.emod_lt_of_pos _ (by decide)
    generalize ((n1 + 1) * 39373) % 1000000007 = v at q1 q2 ⊢
    refine ⟨.inl (by omega), by decide, ?_⟩
    have q3 : 0 ≤ (v * v) % 998244353 := Int.emod_nonneg _ (by decide)
    have q4 : (v * v) % 998244353 < 998244353 := Int.emod_lt_of_pos _ (by decide)
    generalize (v * v) % 998244353 = w at q3 q4 ⊢
    refine ⟨.inl (by omega), by decide, ⟨by decide, by decide⟩, hm, ?_⟩
    exact hp _ _ (Int.emod_nonneg _ (by omega)) (Int.emod_lt_of_pos _ hm) (IsBag.mk' h1 h2 h3 h) But.refl
theorem cell_of {cs : List Int} (h : ∀ x ∈ cs, 0 ≤ x) (n : Int) : ∃ v : Int, 0 ≤ v ∧ atI (cutU (cs.map U.int) (some n) none ++ [U.int 0]) 0 = some (.int v) := by
  generalize e : cutU (cs.map U.int) (some n) none = l
  cases l with
  | nil => exact ⟨0, by omega, atI_0⟩
  | cons u r =>
    have hu : u ∈ cs.map U.int := by
      have : u ∈ cutU (cs.map U.int) (some n) none := by rw [e]; simp
      unfold cutU at this
      exact List.mem_of_mem_drop (List.mem_of_mem_take this)
    obtain ⟨i, hi, rfl⟩ := List.mem_map.mp hu
    exact ⟨i, h i hi, atI_0⟩
theorem cut_len {us : List U} {lo hi : Option Int} : (cutU us lo hi).length ≤ us.length := by
  unfold cutU
  rw [List.length_take, List.length_drop]
  omega
theorem v_law_take : ∀ us S P, Φ_law_take Cs us S P → u_law_take Cs (rtD P) (ustart 7 us) S := by
  rintro us S P ⟨b, m, rfl, ⟨n0, n1, n2, c, cs, h1, h2, h3, h⟩, hm, hm2, hp⟩
  simp only [u_law_take]
  rw [uSeq]
  walk_at "ux"
  refine ixE_lst h1 atI_0 ?_
  refine eqA_int ?_
  walk_at "ux"
  by_cases h0 : n0 = 0
  · rw [decide_eq_true h0]
    walk_at "ux"
    refine ixE_lst h1 atI_3 ?_
    refine ixE_lst h1 atI_2 ?_
    walk_at "ux"
    refine ⟨cs.map U.int, by simp [U.lis, h2], by decide, ?_, ?_⟩
    · have := cut_len (us := cs.map U.int) (lo := some n2) (hi := none)
      rw [List.length_map] at this
      exact big (by omega)
    obtain ⟨v, hv, ev⟩ := cell_of h.2.2.2.2.2 n2
    refine ⟨0, _, rfl, ev, ?_⟩
    refine ⟨b, 2, _, n2, rfl, rfl, h1, atI_2, _, _, 2, rfl, h1, rfl, ?_⟩
    walk_at "ux"
    have hn2 : 0 ≤ n2 := h.2.2.2.1
    refine ⟨⟨by decide, by decide, by decide⟩, ?_⟩
    have join : ∀ n0' : Int, 0 ≤ n0' → ∃ S1 : Sto, S1 = sput S b (.lst [.int n0', .int n1, .int (n2 + 1), .loc c]) ∧ S1 b = some (.lst [.int n0', .int n1, .int (n2 + 1), .loc c]) ∧ S1 c = some (.lst (cs.map U.int)) ∧ But S S1 b := fun n0' _ => ⟨_, rfl, sput_same, by rw [sput_ne (Ne.symm h3)]; exact h2, But.old⟩
    have last : ∀ (n0' : Int) (S2 : Sto), 0 ≤ n0' → S2 b = some (.lst [.int n0', .int ((n1 * 48271 + v % 2147483647 + 7919 * (n2 + 1)) % 2147483647), .int (n2 + 1), .loc c]) → S2 c = some (.lst (cs.map U.int)) → But S S2 b → _ := fun n0' S2 h0' g1 g2 g3 =>
      take_end (o2 := some (.int v)) (o3 := some (.int (n1 * 48271 + v % 2147483647 + 7919 * (n2 + 1)))) (o4 := none) (P := P) g1 g2 h3 ⟨h0', Int.emod_nonneg _ (by decide), Int.emod_lt_of_pos _ (by decide), by omega, h.2.2.2.2⟩ hm hm2 fun r S' a1 a2 a3 a4 => hp r S' a1 a2 a3 (g3.trans a4)
    by_cases hb : 10 ^ Int.toNat 18 ≤ v
    · rw [decide_eq_true hb]
      walk_at "ux"
      refine ⟨b, 0, _, 0, rfl, rfl, sput_same, rfl, ?_⟩
      rw [sput_sput]
      obtain ⟨S1, e, g1, g2, g3⟩ := join v hv
      show (fIx _ _ (sput S b (.lst [.int v, .int n1, .int (n2 + 1), .loc c])) _)
      rw [← e]
      refine ixE_lst g1 atI_1 ?_
      walk_at "ux"
      refine ⟨.inl (by omega), by decide, ?_⟩
      refine ixE_lst g1 atI_2 ?_
      walk_at "ux"
      refine ⟨.inl (by decide), by decide, b, 1, _, 1, rfl, rfl, g1, rfl, ?_⟩
      have := last v (sput S1 b (.lst [.int v, .int ((n1 * 48271 + v % 2147483647 + 7919 * (n2 + 1)) % 2147483647), .int (n2 + 1), .loc c])) hv sput_same (by rw [sput_ne (Ne.symm h3)]; exact g2) (g3.trans But.old)
      revert this
      walk_at "ux"
      exact id
    · rw [decide_eq_false hb]
      walk_at "ux"
      obtain ⟨S1, e, g1, g2, g3⟩ := join n0 (by omega)
      show (fIx _ _ (sput S b (.lst [.int n0, .int n1, .int (n2 + 1), .loc c])) _)
      rw [← e]
      refine ixE_lst g1 atI_1 ?_
      walk_at "ux"
      refine ⟨.inl (by omega), by decide, ?_⟩
      refine ixE_lst g1 atI_2 ?_
      walk_at "ux"
      refine ⟨.inl (by decide), by decide, b, 1, _, 1, rfl, rfl, g1, rfl, ?_⟩
      have := last n0 (sput S1 b (.lst [.int n0, .int ((n1 * 48271 + v % 2147483647 + 7919 * (n2 + 1)) % 2147483647), .int (n2 + 1), .loc c])) (by omega) sput_same (by rw [sput_ne (Ne.symm h3)]; exact g2) (g3.trans But.old)
      revert this
      walk_at "ux"
      exact id
  · rw [decide_eq_false h0]
    walk_at "ux"
    have := take_end (o2 := none) (o3 := none) (o4 := none) (P := P) h1 h2 h3 h hm hm2 hp
    revert this
    walk_at "ux"
    exact id
end
end K01

set_option Elab.async false
set_option linter.all false
set_option maxRecDepth 100000
set_option exponentiation.threshold 1000
set_option maxHeartbeats 4000000
namespace K01
open PySem L2 Y
section
variable {Cs : List Addr} {S S' S'' : Sto} {b : Addr}
theorem itsU_but (h : But S S' b) {x : U} {xs : List U} (hx : x ≠ .loc b) (e : itsU S x = some xs) : itsU S' x = some xs := by
  cases x with
  | loc a =>
    have hne : a ≠ b := fun z => hx (by rw [z])
    have hl : S a ≠ none := fun z => by simp [itsU, U.seq, z] at e
    simp only [itsU, U.seq] at e ⊢
    rw [h a hne hl]
    exact e
  | _ => exact e
theorem len_its {x : U} {xs : List U} {P : UK} (e : itsU S x = some xs) (hl : xs.length ≤ 100) (p : P (.int xs.length) S) : fLen [x] S P := by
  cases x with
  | str z =>
    have e' : sgnU z = xs := Option.some.inj e
    have hz : z.length = xs.length := by rw [← e', sgn_len]
    refine len_str (big (by omega)) ?_
    rw [hz]
    exact p
  | loc a =>
    simp only [itsU, U.seq] at e
    split at e
    · rename_i us h
      cases Option.some.inj e
      exact len_lst h p
    · cases e
  | _ =>
    first
      | (cases e; done)
      | (cases Option.some.inj e
         exact ⟨_, _, rfl, rfl, p⟩)
theorem ixA_its {x : U} {xs : List U} {P : UK} (e : itsU S x = some xs) (hl : xs.length ≤ 100) {i : Nat} (hi : i < xs.length) (p : P xs[i] S) : fIxA x (.int i) S P := by
  cases x with
  | str z =>
    have e' : sgnU z = xs := Option.some.inj e
    subst e'
    have hz : z.length = (sgnU z).length := sgn_len.symm
    rw [sgn_len] at hi
    have hi' : i < z.cps.toList.length := by simpa [Str.length] using hi
    refine .inr ⟨z, i, z.cps.toList[i], rfl, rfl, big (by omega), atI_nat hi', ?_⟩
    simpa [sgnU] using p
  | loc a =>
    simp only [itsU, U.seq] at e
    split at e
    · rename_i us h
      cases Option.some.inj e
      exact .inl (ixE_lst h (atI_nat hi) p)
    · cases e
  | _ =>
    first
      | (cases e; done)
      | (cases Option.some.inj e
         exact .inl ⟨_, _, _, rfl, rfl, atI_nat hi, p⟩)
theorem v_law_some : ∀ us S P, Φ_law_some Cs us S P → u_law_some Cs (rtD P) (ustart 2 us) S := by
  rintro us S P ⟨b, x, xs, rfl, hb, hx, he, hne, hl, hp⟩
  simp only [u_law_some]
  walk_at "ux"
  refine len_its he hl ?_
  have h0 : 0 < xs.length := List.length_pos_iff.mpr hne
  refine ⟨b, _, rfl, hb, by omega, by omega, fun r S' h1 h2 hb' bt => ?_⟩
  obtain ⟨i, rfl⟩ := Int.eq_ofNat_of_zero_le h1
  have hi : i < xs.length := by omega
  exact ixA_its (itsU_but bt hx he) hl hi (hp _ _ (List.getElem_mem hi) hb' bt)
/-- a call of some on a new list -/
theorem some_new {xs : List U} {P : UK} (hb : IsBag S b) (hne : xs ≠ []) (hl : xs.length ≤ 100) (hp : ∀ u S', u ∈ xs → IsBag S' b → But S S' b → P u S') {p : Addr} (h : S p = none) : Φ_law_some Cs [.loc b, .loc p] (sput S p (.lst xs)) P :=
  ⟨b, .loc p, xs, rfl, hb.new h, fun z => by cases z; exact hb.live h, by simp [itsU, U.seq, sput_same], hne, hl, fun u S' hu hb' bt => hp u S' hu hb' ((But.new h).trans bt)⟩
theorem take_do {P : UK} {m : Int} (hb : IsBag S b) (hm : 0 < m) (hm2 : m.natAbs < 2 ^ 150) (hp : ∀ r S', 0 ≤ r → r < m → IsBag S' b → But S S' b → P (.int r) S') : Φ_law_take Cs [.loc b, .int m] S P := ⟨b, m, rfl, hb, hm, hm2, hp⟩
theorem some_str {z : Str} {P : UK} (hb : IsBag S b) (hne : 0 < z.length) (hl : z.length ≤ 100) (hp : ∀ c S', IsBag S' b → But S S' b → P (.str ⟨#[c]⟩) S') : Φ_law_some Cs [.loc b, .str z] S P :=
  ⟨b, .str z, sgnU z, rfl, hb, fun e => (nomatch e), rfl, List.ne_nil_of_length_pos (by rw [sgn_len]; exact hne), by rw [sgn_len]; exact hl, fun u S' hu hb' bt => by
    obtain ⟨c, _, rfl⟩ := List.mem_map.mp hu
    exact hp c S' hb' bt⟩
theorem cutS_len {z : Str} {lo hi : Option Int} : (cutS z lo hi).length ≤ z.length := by
  unfold cutS Str.length
  simp
  omega
theorem v_law_word : ∀ us S P, Φ_law_word Cs us S P → u_law_word Cs (rtD P) (ustart 6 us) S := by
  rintro us S P ⟨b, rfl, hb, hp⟩
  simp only [u_law_word]
  walk_at "ux"
  refine ⟨by decide, _, _, rfl, _, _, rfl, rfl, ?_⟩
  simp only [uFor]
  walk_at "ux"
  refine ⟨by decide, fun p hp0 => some_new hb (by simp) (by decide) (fun u S1 hu hb1 bt1 => ?_) hp0⟩
  obtain ⟨n, rfl, hn⟩ : ∃ n : Nat, u = .int n ∧ n ≤ 13 := by
    simp only [List.mem_cons, List.not_mem_nil, or_false] at hu
    rcases hu with rfl | rfl | rfl | rfl | rfl | rfl | rfl
    · exact ⟨1, rfl, by omega⟩
    · exact ⟨2, rfl, by omega⟩
    · exact ⟨5, rfl, by omega⟩
    · exact ⟨11, rfl, by omega⟩
    · exact ⟨12, rfl, by omega⟩
    · exact ⟨13, rfl, by omega⟩
    · exact ⟨0, rfl, by omega⟩
  refine ⟨n, rfl, by omega, by omega, ?_⟩
  refine turns_inv (fun i σ S' => IsBag S' b ∧ But S S' b ∧ i ≤ 13 ∧ ∃ (z : Str) (t : Option U), σ = [some (.loc b), some (.str (Str.ofString "abcmyz")), some (.str z), t, none, none] ∧ z.length = i) _ 0 _ S1 (fun _ _ _ _ _ => trivial) ?_ ?_ ?_
  · rintro j u σ S2 K hu ⟨hb2, bt2, hi, z, t, rfl, hz⟩ hK
    walk_at "ux"
    have hj := (rng_get hu).1
    refine some_str hb2 (by decide) (by decide) fun c S3 hb3 bt3 => ?_
    walk_at "ux"
    have e1 : ((⟨#[c]⟩ : Str)).length = 1 := rfl
    refine ⟨big (by omega), hK _ _ ⟨hb3, bt2.trans bt3, by omega, _, some u, rfl, ?_⟩⟩
    rw [strLen_append]
    omega
  · rintro σ S2 ⟨hb2, bt2, hi, z, t, rfl, hz⟩
    walk_at "ux"
    refine len_str (big (by omega)) ?_
    walk_at "ux"
    refine take_do hb2 (by omega) (by omega) fun r S3 h1 h2 hb3 bt3 => ?_
    walk_at "ux"
    refine ⟨by decide, fun p hp0 => some_new hb3 (by simp) (by simp) (fun u S4 hu hb4 bt4 => ?_) hp0⟩
    obtain ⟨y, rfl, hy⟩ : ∃ y : Str, u = .str y ∧ y.length ≤ 1 := by
      simp only [List.mem_cons, List.not_mem_nil, or_false] at hu
      rcases hu with rfl | rfl | rfl | rfl | rfl | rfl | rfl | rfl | rfl | rfl | rfl <;> exact ⟨_, rfl, by decide⟩
    walk_at "ux"
    have c1 := @cutS_len z none (some r)
    have c2 := @cutS_len z (some r) none
    refine ⟨big (by omega), big (by omega), big (by omega), big (by rw [strLen_append]; omega), hp _ _ (by rw [strLen_append, strLen_append]; omega) hb4 (((bt2.trans bt3)).trans bt4)⟩
  · exact ⟨hb1, bt1, by omega, Str.ofString "", none, rfl, rfl⟩
theorem v_law_number : ∀ us S P, Φ_law_number Cs us S P → u_law_number Cs (rtD P) (ustart 2 us) S := by
  rintro us S P ⟨b, rfl, hb, hp⟩
  simp only [u_law_number]
  walk_at "ux"
  refine take_do hb (by decide) (by decide) fun r1 S1 a1 a2 hb1 bt1 => ?_
  refine take_do hb1 (by decide) (by decide) fun r2 S2 b1 b2 hb2 bt2 => ?_
  walk_at "ux"
  refine ⟨.inl (by decide), ⟨by decide, by decide, by decide⟩, ⟨by decide, by decide, by decide⟩, ?_⟩
  refine take_do hb2 (by decide) (by decide) fun r3 S3 c1 c2 hb3 bt3 => ?_
  walk_at "ux"
  refine ⟨by decide, fun p hp0 => some_new hb3 (by simp) (by simp) (fun u S4 hu hb4 bt4 => ?_) hp0⟩
  obtain ⟨n, rfl, hn⟩ : ∃ n : Int, u = .int n ∧ n.natAbs < 2 ^ 120 := by
    simp only [List.mem_cons, List.not_mem_nil, or_false] at hu
    rcases hu with rfl | rfl | rfl | rfl | rfl
    · exact ⟨_, rfl, by omega⟩
    · exact ⟨_, rfl, by omega⟩
    · have e1 : (10 : Int) ^ Int.toNat 30 = 1000000000000000000000000000000 := by decide
      have e2 : (10 : Int) ^ Int.toNat 6 = 1000000 := by decide
      exact ⟨_, rfl, by omega⟩
    · exact ⟨_, rfl, by decide⟩
    · exact ⟨_, rfl, by decide⟩
  refine take_do hb4 (by decide) (by decide) fun r5 S5 d1 d2 hb5 bt5 => ?_
  have bt : But S S5 b := (((bt1.trans bt2).trans bt3).trans bt4).trans bt5
  refine eqA_int ?_
  walk_at "ux"
  by_cases h : r5 = 0
  · rw [decide_eq_true h]
    walk_at "ux"
    exact hp _ _ hn hb5 bt
  · rw [decide_eq_false h]
    walk_at "ux"
    exact hp _ _ (by omega) hb5 bt
end
end K01

set_option Elab.async false
set_option linter.all false
set_option maxRecDepth 100000
set_option exponentiation.threshold 1000
set_option maxHeartbeats 4000000
namespace K01
open PySem L2 Y
section
variable {Cs : List Addr} {S S' S'' : Sto} {b : Addr}
/-- a value of the menu -/
def Gd (Cs : List Addr) (b : Addr) (S : Sto) (u : U) : Prop := AnyV Cs S u ∧ u ≠ .loc b
theorem Gd.but (h : But S S' b) (hb : IsBag S' b) {x : U} (hx : Gd Cs b S x) : Gd Cs b S' x := ⟨hx.1.but h hb, hx.2⟩
theorem gd_int {i : Int} (h : i.natAbs < 2 ^ 150) : Gd Cs b S (.int i) := ⟨.int i h, fun e => (nomatch e)⟩
theorem gd_bl {i : Bool} : Gd Cs b S (.bl i) := ⟨.bl i, fun e => (nomatch e)⟩
theorem gd_non : Gd Cs b S .non := ⟨.non, fun e => (nomatch e)⟩
theorem gd_str {x : Str} (h : x.length ≤ 100) : Gd Cs b S (.str x) := ⟨.str x h, fun e => (nomatch e)⟩
theorem gd_tup {us : List U} (hl : us.length ≤ 100) (h : ∀ u ∈ us, AnyV Cs S u) : Gd Cs b S (.tup us) := ⟨.tup us hl h, fun e => (nomatch e)⟩
theorem gd_loc {p : Addr} (hb : IsBag S b) (hp : S p = none) {o : Ob} : Gd Cs b (sput S p o) (.loc p) := ⟨.loc p (by rw [sput_same]; exact fun z => nomatch z), fun e => by cases e; exact hb.live hp⟩
theorem gd_exc {C : Addr} {fs : List (Str × U)} (h : C ∈ Cs) : Gd Cs b S (.exc C fs) := ⟨.exc C fs h, fun e => (nomatch e)⟩
theorem gd_new {p : Addr} {o : Ob} (hb : IsBag S b) (hp : S p = none) {x : U} (h : Gd Cs b S x) : Gd Cs b (sput S p o) x := h.but (But.new hp) (hb.new hp)
theorem all_cons {α : Type} {Q : α → Prop} {x : α} {xs : List α} (h : Q x) (t : ∀ u ∈ xs, Q u) : ∀ u ∈ x :: xs, Q u := fun u hu => by
  rcases List.mem_cons.mp hu with rfl | hu
  · exact h
  · exact t u hu
theorem all_nil {α : Type} {Q : α → Prop} : ∀ u ∈ ([] : List α), Q u := fun u hu => (nomatch hu)
theorem all_app {α : Type} {Q : α → Prop} {xs ys : List α} (h : ∀ u ∈ xs, Q u) (t : ∀ u ∈ ys, Q u) : ∀ u ∈ xs ++ ys, Q u := fun u hu => by
  rcases List.mem_append.mp hu with hu | hu
  · exact h u hu
  · exact t u hu
/-- what stands at two places -/
def Two (S : Sto) (b c : Addr) (B C : Ob) : Prop := S b = some B ∧ S c = some C
theorem Two.new {c p : Addr} {B C o : Ob} (h : Two S b c B C) (hp : S p = none) : Two (sput S p o) b c B C := ⟨by rw [put_keep hp (by rw [h.1]; exact fun z => nomatch z)]; exact h.1, by rw [put_keep hp (by rw [h.2]; exact fun z => nomatch z)]; exact h.2⟩
theorem Two.oth {c l : Addr} {B C o : Ob} (h : Two S b c B C) (h1 : b ≠ l) (h2 : c ≠ l) : Two (sput S l o) b c B C := ⟨by rw [sput_ne h1]; exact h.1, by rw [sput_ne h2]; exact h.2⟩
theorem Two.ne1 {c l : Addr} {B C : Ob} (h : Two S b c B C) (hl : S l = none) : b ≠ l := fun e => by subst e; rw [h.1] at hl; cases hl
theorem Two.ne2 {c l : Addr} {B C : Ob} (h : Two S b c B C) (hl : S l = none) : c ≠ l := fun e => by subst e; rw [h.2] at hl; cases hl
theorem gd_mono (h : ∀ a, S a ≠ none → S' a ≠ none) {x : U} (hx : Gd Cs b S x) : Gd Cs b S' x := ⟨hx.1.mono h, hx.2⟩
theorem gd_loc2 {c p : Addr} {B C o : Ob} (h : Two S b c B C) (hp : S p = none) : Gd Cs b (sput S p o) (.loc p) := ⟨.loc p (by rw [sput_same]; exact fun z => nomatch z), fun e => by cases e; exact h.ne1 hp rfl⟩
/-- the last rows of _law_any -/
theorem any_fall {l : Addr} {us : List U} {d : Int} {o3 : Option U} {P : UK} (hb : IsBag S b) (hl : l ≠ b) (e : S l = some (.lst us)) (hz : us.length ≤ 90) (hg : ∀ u ∈ us, Gd Cs b S u) (hp : ∀ x S', AnyV Cs S' x → x ≠ .loc b → IsBag S' b → But S S' b → P x S') :
    (uRet (uCall (Φ_law_some Cs) (uCons (uVar 0) (uCons (uNew (uCatV (uVar 2) (uLst (uCons (uCall (Φ_law_word Cs) (uCons (uVar 0) (uNil))) (uCons (uCall (Φ_law_word Cs) (uCons (uVar 0) (uNil))) (uCons (uTup (uCons (uCall (Φ_law_word Cs) (uCons (uVar 0) (uNil))) (uCons (uCall (Φ_law_word Cs) (uCons (uVar 0) (uNil))) (uNil)))) (uNil))))))) (uNil))))) (rtD P) [some (.loc b), some (.int d), some (.loc l), o3] S := by
  walk_at "ux"
  refine ⟨b, rfl, hb, fun w1 S1 z1 hb1 bt1 => ?_⟩
  refine ⟨b, rfl, hb1, fun w2 S2 z2 hb2 bt2 => ?_⟩
  refine ⟨b, rfl, hb2, fun w3 S3 z3 hb3 bt3 => ?_⟩
  refine ⟨b, rfl, hb3, fun w4 S4 z4 hb4 bt4 => ?_⟩
  walk_at "ux"
  have bt : But S S4 b := ((bt1.trans bt2).trans bt3).trans bt4
  refine ⟨by decide, by decide, l, us, rfl, by rw [bt l hl (by rw [e]; exact fun z => nomatch z)]; exact e, big (by simp; omega), fun p hp0 => some_new hb4 (by simp) (by simp; omega) (fun u S5 hu hb5 bt5 => ?_) hp0⟩
  have hG : ∀ u ∈ us ++ [U.str w1, U.str w2, U.tup [U.str w3, U.str w4]], Gd Cs b S4 u :=
    all_app (fun u hu => (hg u hu).but bt hb4) (all_cons (gd_str z1) (all_cons (gd_str z2) (all_cons (gd_tup (by simp) (all_cons (.str _ z3) (all_cons (.str _ z4) all_nil))) all_nil)))
  have q := (hG u hu).but bt5 hb5
  exact hp u S5 q.1 q.2 hb5 (bt.trans bt5)
theorem v_law_any (hC : Cs.getD 1 0 ∈ Cs) (n : Nat) : ∀ us S P, Φ_law_any (n + 1) Cs us S P → u_law_any n Cs (rtD P) (ustart 4 us) S := by
  rintro us S P ⟨b, d, rfl, hb, hd, hdn, hd2, hp⟩
  obtain ⟨n0, n1, n2, c, cs, hb1, hb2, hb3⟩ := hb
  have t0 : Two S b c _ _ := ⟨hb1, hb2⟩
  simp only [u_law_any]
  walk_at "ux"
  refine ⟨⟨by decide, by decide, by decide⟩, by decide, by decide, fun p1 h1 p2 h2 => ⟨by decide, by decide, fun p3 h3 => ⟨by decide, by decide, by decide, fun l h4 => ?_⟩⟩⟩
  have t1 := t0.new (o := .lst []) h1
  have g1 := gd_loc2 (Cs := Cs) (o := .lst []) t0 h1
  have b1 : But S _ b := But.new (b := b) (o := .lst []) h1
  generalize sput S p1 (.lst []) = S1 at *
  have t2 := t1.new (o := .dct []) h2
  have g2 := gd_loc2 (Cs := Cs) (o := .dct []) t1 h2
  have b2 : But S _ b := b1.newR (o := .dct []) h2
  replace g1 := gd_mono (fun a => live_put (p := p2) (o := .dct [])) g1
  generalize sput S1 p2 (.dct []) = S2 at *
  have t3 := t2.new (o := .lst [U.str (Str.ofString "a"), U.str (Str.ofString "b")]) h3
  have g3 := gd_loc2 (Cs := Cs) (o := .lst [U.str (Str.ofString "a"), U.str (Str.ofString "b")]) t2 h3
  have b3 : But S _ b := b2.newR (o := .lst [U.str (Str.ofString "a"), U.str (Str.ofString "b")]) h3
  replace g1 := gd_mono (fun a => live_put (p := p3) (o := .lst [U.str (Str.ofString "a"), U.str (Str.ofString "b")])) g1
  replace g2 := gd_mono (fun a => live_put (p := p3) (o := .lst [U.str (Str.ofString "a"), U.str (Str.ofString "b")])) g2
  generalize sput S2 p3 (.lst [U.str (Str.ofString "a"), U.str (Str.ofString "b")]) = S3 at *
  have m0 : ∀ u ∈ [U.non, .bl true, .bl false, .int 0, .int 1, .int (-1), .int (10 ^ Int.toNat 39), .str (Str.ofString ""), .str (Str.ofString "a"), .str (Str.ofString "last"), .tup [], .loc p1, .loc p2, .tup [.str (Str.ofString "a"), .str (Str.ofString "b")], .loc p3, .tup [.int 1, .int 2], .tup [.int 2, .int 4]], Gd Cs b S3 u := by
    have s2 : AnyV Cs S3 (.str (Str.ofString "a")) := .str _ (by decide)
    have s3 : AnyV Cs S3 (.str (Str.ofString "b")) := .str _ (by decide)
    refine all_cons gd_non (all_cons gd_bl (all_cons gd_bl (all_cons (gd_int (by decide)) (all_cons (gd_int (by decide)) (all_cons (gd_int (by decide)) (all_cons (gd_int (by decide)) (all_cons (gd_str (by decide)) (all_cons (gd_str (by decide)) (all_cons (gd_str (by decide)) (all_cons (gd_tup (by decide) all_nil) (all_cons g1 (all_cons g2 (all_cons (gd_tup (by decide) (all_cons s2 (all_cons s3 all_nil))) (all_cons g3 (all_cons (gd_tup (by decide) (all_cons (.int _ (by decide)) (all_cons (.int _ (by decide)) all_nil))) (all_cons (gd_tup (by decide) (all_cons (.int _ (by decide)) (all_cons (.int _ (by decide)) all_nil))) all_nil))))))))))))))))
  generalize hm0 : [U.non, .bl true, .bl false, .int 0, .int 1, .int (-1), .int (10 ^ Int.toNat 39), .str (Str.ofString ""), .str (Str.ofString "a"), .str (Str.ofString "last"), .tup [], .loc p1, .loc p2, .tup [.str (Str.ofString "a"), .str (Str.ofString "b")], .loc p3, .tup [.int 1, .int 2], .tup [.int 2, .int 4]] = M0 at *
  have l0 : M0.length = 17 := by rw [← hm0]; rfl
  have nb : b ≠ l := t3.ne1 h4
  have nc : c ≠ l := t3.ne2 h4
  have t4 := t3.oth (o := .lst M0) nb nc
  have m4 : ∀ u ∈ M0, Gd Cs b (sput S3 l (.lst M0)) u := fun u hu => gd_mono (fun a => live_put) (m0 u hu)
  have b4 : But S _ b := b3.newR (o := .lst M0) h4
  have n4 : S l = none := by
    cases e : S l with
    | none => rfl
    | some o => rw [b3 l (Ne.symm nb) (by rw [e]; exact fun z => nomatch z), e] at h4; cases h4
  refine ⟨l, M0, rfl, sput_same, by decide, by decide, by decide, by decide, by decide, by decide, by decide, by decide, by decide, by decide, by decide, M0, sput_same, by rw [l0]; decide, l, _, rfl, sput_same, ?_⟩
  rw [sput_sput]
  have s2 : ∀ S, AnyV Cs S (.str (Str.ofString "a")) := fun S => .str _ (by decide)
  have s3 : ∀ S, AnyV Cs S (.str (Str.ofString "b")) := fun S => .str _ (by decide)
  have s4 : ∀ S, AnyV Cs S (.str (Str.ofString "c")) := fun S => .str _ (by decide)
  have t5 := t3.oth (o := .lst (M0 ++ [.tup [.int 0, .int 1], .tup [.int 0, .int 2], .tup [.bl true, .int 2], .tup [.int 1, .bl true], .tup [.int (-3), .int 2], .tup [.int 3, .int (-2)], .tup [.int 1, .int 0], .tup [.str (Str.ofString "a")], .tup [.str (Str.ofString "a"), .str (Str.ofString "b"), .str (Str.ofString "c")], .tup [.str (Str.ofString "a"), .int 1]])) nb nc
  have m5 : ∀ u ∈ (M0 ++ [.tup [.int 0, .int 1], .tup [.int 0, .int 2], .tup [.bl true, .int 2], .tup [.int 1, .bl true], .tup [.int (-3), .int 2], .tup [.int 3, .int (-2)], .tup [.int 1, .int 0], .tup [.str (Str.ofString "a")], .tup [.str (Str.ofString "a"), .str (Str.ofString "b"), .str (Str.ofString "c")], .tup [.str (Str.ofString "a"), .int 1]]), Gd Cs b S3 u := by
    refine all_app m0 (all_cons (gd_tup (by decide) (all_cons (.int _ (by decide)) (all_cons (.int _ (by decide)) all_nil))) (all_cons (gd_tup (by decide) (all_cons (.int _ (by decide)) (all_cons (.int _ (by decide)) all_nil))) (all_cons (gd_tup (by decide) (all_cons (.bl _) (all_cons (.int _ (by decide)) all_nil))) (all_cons (gd_tup (by decide) (all_cons (.int _ (by decide)) (all_cons (.bl _) all_nil))) (all_cons (gd_tup (by decide) (all_cons (.int _ (by decide)) (all_cons (.int _ (by decide)) all_nil))) (all_cons (gd_tup (by decide) (all_cons (.int _ (by decide)) (all_cons (.int _ (by decide)) all_nil))) (all_cons (gd_tup (by decide) (all_cons (.int _ (by decide)) (all_cons (.int _ (by decide)) all_nil))) (all_cons (gd_tup (by decide) (all_cons (s2 _) all_nil)) (all_cons (gd_tup (by decide) (all_cons (s2 _) (all_cons (s3 _) (all_cons (s4 _) all_nil)))) (all_cons (gd_tup (by decide) (all_cons (s2 _) (all_cons (.int _ (by decide)) all_nil))) all_nil))))))))))
  generalize hm1 : (M0 ++ [.tup [.int 0, .int 1], .tup [.int 0, .int 2], .tup [.bl true, .int 2], .tup [.int 1, .bl true], .tup [.int (-3), .int 2], .tup [.int 3, .int (-2)], .tup [.int 1, .int 0], .tup [.str (Str.ofString "a")], .tup [.str (Str.ofString "a"), .str (Str.ofString "b"), .str (Str.ofString "c")], .tup [.str (Str.ofString "a"), .int 1]]) = M1 at *
  have l1 : M1.length = 27 := by rw [← hm1, List.length_append, l0]; rfl
  have b5 : But S (sput S3 l (.lst M1)) b := b3.newR h4
  replace m5 : ∀ u ∈ M1, Gd Cs b (sput S3 l (.lst M1)) u := fun u hu => gd_mono (fun a => live_put) (m5 u hu)
  have e5 : sput S3 l (.lst M1) l = some (.lst M1) := sput_same
  generalize sput S3 l (.lst M1) = S5 at *
  refine ⟨by decide, fun p5 h5 => ⟨by decide, fun p6 h6 => ?_⟩⟩
  have t6 := t5.new (o := .lst [.int 1, .int 2]) h5
  have g5 := gd_loc2 (Cs := Cs) (o := .lst [.int 1, .int 2]) t5 h5
  have b6 : But S _ b := b5.newR (o := .lst [.int 1, .int 2]) h5
  have m6 : ∀ u ∈ M1, Gd Cs b (sput S5 p5 (.lst [.int 1, .int 2])) u := fun u hu => gd_mono (fun a => live_put) (m5 u hu)
  have e6 : sput S5 p5 (.lst [.int 1, .int 2]) l = some (.lst M1) := by rw [put_keep h5 (by rw [e5]; exact fun z => nomatch z)]; exact e5
  generalize sput S5 p5 (.lst [.int 1, .int 2]) = S6 at *
  have t7 := t6.new (o := .lst [.int 0, .int 1]) h6
  have g6 := gd_loc2 (Cs := Cs) (o := .lst [.int 0, .int 1]) t6 h6
  have b7 : But S _ b := b6.newR (o := .lst [.int 0, .int 1]) h6
  have m7 : ∀ u ∈ M1, Gd Cs b (sput S6 p6 (.lst [.int 0, .int 1])) u := fun u hu => gd_mono (fun a => live_put) (m6 u hu)
  have g7 : Gd Cs b (sput S6 p6 (.lst [.int 0, .int 1])) (.loc p5) := gd_mono (fun a => live_put) g5
  have e7 : sput S6 p6 (.lst [.int 0, .int 1]) l = some (.lst M1) := by rw [put_keep h6 (by rw [e6]; exact fun z => nomatch z)]; exact e6
  generalize sput S6 p6 (.lst [.int 0, .int 1]) = S7 at *
  simp only [uExc]
  walk_at "ux"
  refine ⟨by decide, by decide, M1, e7, by rw [l1]; decide, ?_⟩
  have m8 : ∀ u ∈ M1 ++ [U.loc p5, .loc p6, .exc (Cs.getD 1 0) ([(Str.ofString "line", U.int 0), (Str.ofString "column", .int 0)].reverse)], Gd Cs b S7 u := all_app m7 (all_cons g7 (all_cons g6 (all_cons (gd_exc hC) all_nil)))
  generalize hm2 : M1 ++ [U.loc p5, .loc p6, .exc (Cs.getD 1 0) ([(Str.ofString "line", U.int 0), (Str.ofString "column", .int 0)].reverse)] = M2 at *
  have l2 : M2.length = 30 := by rw [← hm2, List.length_append, l1]; rfl
  have n7 : ∀ u ∈ M2, Gd Cs b (sput S7 l (.lst M2)) u := fun u hu => gd_mono (fun a => live_put) (m8 u hu)
  have t8 := t7.oth (o := .lst M2) nb nc
  have b8 : But S (sput S7 l (.lst M2)) b := fun a ha hl => by
    have : a ≠ l := fun z => hl (z ▸ n4)
    rw [sput_ne this]
    exact b7 a ha hl
  have e8 : sput S7 l (.lst M2) l = some (.lst M2) := sput_same
  generalize sput S7 l (.lst M2) = S8 at *
  have hb8 : IsBag S8 b := ⟨n0, n1, n2, c, cs, t8.1, t8.2, hb3⟩
  by_cases hd0 : 0 < d
  · rw [decide_eq_true hd0]
    walk_at "ux"
    refine take_do hb8 (by decide) (by decide) fun r S9 r1 r2 hb9 bt9 => ?_
    refine eqA_int ?_
    walk_at "ux"
    by_cases hr : r = 0
    · rw [decide_eq_true hr]
      walk_at "ux"
      refine take_do hb9 (by decide) (by decide) fun q S10 q1 q2 hb10 bt10 => ?_
      refine ⟨q, rfl, by omega, by omega, by rw [rng_len]; exact big (by omega), ?_⟩
      refine lcT_inv (fun i acc S' => IsBag S' b ∧ But S S' b ∧ acc.length ≤ i ∧ ∀ u ∈ acc, AnyV Cs S' u) _ 0 [] S10 (fun _ _ _ _ => trivial) ?_ ?_ ?_
      · rintro j u acc S' Q1 Q0 hu ⟨k1, k2, k3, k4⟩ h1 h0
        walk_at "ux"
        refine ⟨b, d - 1, rfl, k1, by omega, by omega, by omega, fun x S'' x1 x2 x3 x4 => h1 _ _ ⟨x3, k2.trans x4, by simp; omega, all_app (fun u hu => (k4 u hu).but x4 x3) (all_cons x1 all_nil)⟩⟩
      · rintro acc S' ⟨k1, k2, k3, k4⟩
        rw [rng_len] at k3
        exact hp _ _ (.tup acc (by omega) k4) (fun e => (nomatch e)) k1 k2
      · exact ⟨hb10, (b8.trans bt9).trans bt10, by simp, all_nil⟩
    · rw [decide_eq_false hr]
      walk_at "ux"
      have := any_fall (d := d) (o3 := none) (P := P) hb9 (Ne.symm nb) (by rw [bt9 l (Ne.symm nb) (by rw [e8]; exact fun z => nomatch z)]; exact e8) (by omega) (fun u hu => (n7 u hu).but bt9 hb9) fun x S' x1 x2 x3 x4 => hp x S' x1 x2 x3 ((b8.trans bt9).trans x4)
      revert this
      walk_at "ux"
      exact id
  · rw [decide_eq_false hd0]
    walk_at "ux"
    have := any_fall (d := d) (o3 := none) (P := P) hb8 (Ne.symm nb) e8 (by omega) n7 fun x S' x1 x2 x3 x4 => hp x S' x1 x2 x3 (b8.trans x4)
    revert this
    walk_at "ux"
    exact id
end
end K01

set_option Elab.async false
set_option linter.all false
set_option maxRecDepth 100000
set_option exponentiation.threshold 1000
set_option maxHeartbeats 4000000
namespace K01
open PySem L2 Y
section
variable {Cs : List Addr} {S S' S'' : Sto} {b : Addr}
theorem fit5 {a1 a2 a3 a4 a5 : Bool} : Fit 100 1 (.list [.bool a1, .bool a2, .bool a3, .bool a4, .bool a5]) :=
  (fit_list (n := 5) (k := 0) (all_cons fit_bool (all_cons fit_bool (all_cons fit_bool (all_cons fit_bool (all_cons fit_bool all_nil)))))).mono (by simp) (by decide)
theorem uDat5 {p : Addr} {a1 a2 a3 a4 a5 : Bool} (e : S p = some (.lst [.bl a1, .bl a2, .bl a3, .bl a4, .bl a5])) : UDat S (.loc p) (.list [.bool a1, .bool a2, .bool a3, .bool a4, .bool a5]) :=
  .lst e (.cons (.bl _) (.cons (.bl _) (.cons (.bl _) (.cons (.bl _) (.cons (.bl _) .nil)))))
theorem fit2 {i j : Int} (hi : i.natAbs < 2 ^ 200) (hj : j.natAbs < 2 ^ 200) : Fit 1000 1 (.tuple [.int i, .int j]) :=
  (fit_tup (n := 201) (k := 0) (all_cons (fit_int (by decide) hi (by decide)) (all_cons (fit_int (by decide) hj (by decide)) all_nil))).mono (by simp) (by decide)
theorem uDat2 {i j : Int} : UDat S (.tup [.int i, .int j]) (.tuple [.int i, .int j]) := .tup (.cons (.int _) (.cons (.int _) .nil))
theorem fdiv_small {n d : Int} (hn : n.natAbs < 2 ^ 150) : (n.fdiv d).natAbs < 2 ^ 200 := by
  have := Int.natAbs_fdiv_le_natAbs n d
  omega
abbrev row12 (x0 : U) (b : Addr) (o2 o3 o4 o5 o6 o7 o8 o9 o10 o11 : Option U) : Ev := [some x0, some (.loc b), o2, o3, o4, o5, o6, o7, o8, o9, o10, o11]
variable {D : UD} {x0 : U} {o2 o3 o4 o5 o6 o7 o8 o9 o10 o11 : Option U}
theorem r3 (hb : IsBag S b) (hK : ∀ x S', Gd Cs b S' x → IsBag S' b → D.nx (row12 x0 b o2 (some x) o4 o5 o6 o7 o8 o9 o10 o11) S') : ulaw_r3 Cs D (row12 x0 b o2 o3 o4 o5 o6 o7 o8 o9 o10 o11) S := by
  simp only [ulaw_r3]
  walk_at "ux"
  refine ⟨b, 2, rfl, hb, by decide, by decide, by decide, fun x S1 x1 x2 hb1 bt1 => ?_⟩
  refine ⟨b, rfl, hb1, fun w S2 z1 hb2 bt2 => ?_⟩
  refine ⟨b, rfl, hb2, fun i S3 z2 hb3 bt3 => ?_⟩
  refine ⟨b, rfl, hb3, fun j S4 z3 hb4 bt4 => ?_⟩
  walk_at "ux"
  refine ⟨by decide, by decide, fun p hp0 => some_new hb4 (by simp) (by simp) (fun u S5 hu hb5 bt5 => ?_) hp0⟩
  have bt : But S1 S4 b := (bt2.trans bt3).trans bt4
  have hG : ∀ u ∈ [x, U.str w, U.tup [.int i, .int j]], Gd Cs b S4 u := all_cons (Gd.but bt hb4 ⟨x1, x2⟩) (all_cons (gd_str z1) (all_cons (gd_tup (by simp) (all_cons (.int _ (by omega)) (all_cons (.int _ (by omega)) all_nil))) all_nil))
  exact hK u S5 ((hG u hu).but bt5 hb5) hb5
/-- four judges' words in a new list -/
theorem r4 {x : U} (hb : IsBag S b) (hx : AnyV Cs S x) (hK : ∀ p S', S' p = some (.lst [.bl (isIntU x), .bl (isNameU x), .bl (isFracU x), .bl (isDeedU x)]) → p ≠ b → But S S' b → IsBag S' b → D.nx (row12 x0 b o2 (some x) (some (.loc p)) o5 o6 o7 o8 o9 o10 o11) S') : ulaw_r4 Cs D (row12 x0 b o2 (some x) o4 o5 o6 o7 o8 o9 o10 o11) S := by
  simp only [ulaw_r4]
  walk_at "ux"
  refine ⟨x, rfl, hx, x, rfl, hx, x, rfl, hx, x, rfl, hx, by decide, fun p hp => ?_⟩
  exact hK p _ sput_same (fun e => hb.live (e ▸ hp)) (But.new hp) (hb.new hp)
theorem r5 {x : U} (hb : IsBag S b) (hx : AnyV Cs S x) (hK : ∀ p S', S' p = some (.lst [.bl (isIntU x), .bl (isNameU x), .bl (isFracU x), .bl (isDeedU x)]) → p ≠ b → But S S' b → IsBag S' b → D.nx (row12 x0 b o2 (some x) o4 (some (.loc p)) o6 o7 o8 o9 o10 o11) S') : ulaw_r5 Cs D (row12 x0 b o2 (some x) o4 o5 o6 o7 o8 o9 o10 o11) S := by
  simp only [ulaw_r5]
  walk_at "ux"
  refine ⟨x, rfl, hx, x, rfl, hx, x, rfl, hx, x, rfl, hx, by decide, fun p hp => ?_⟩
  exact hK p _ sput_same (fun e => hb.live (e ▸ hp)) (But.new hp) (hb.new hp)
theorem r6 {x : U} (hb : IsBag S b) (hx : Gd Cs b S x) (hK : ∀ y S', Gd Cs b S' y → But S S' b → IsBag S' b → D.nx (row12 x0 b o2 (some x) o4 o5 (some y) o7 o8 o9 o10 o11) S') : ulaw_r6 Cs D (row12 x0 b o2 (some x) o4 o5 o6 o7 o8 o9 o10 o11) S := by
  simp only [ulaw_r6]
  walk_at "ux"
  refine ⟨by decide, by decide, by decide, by decide, fun p hp => ⟨by decide, by decide, by decide, fun q hq => ?_⟩⟩
  have hb1 := hb.new (o := .lst [x]) hp
  have bt1 : But S (sput S p (.lst [x])) b := But.new hp
  have g1 := gd_loc (Cs := Cs) (o := .lst [x]) hb hp
  have hx1 := gd_new (o := .lst [x]) hb hp hx
  generalize sput S p (.lst [x]) = S1 at *
  refine some_new hb1 (by simp) (by simp) (fun u S5 hu hb5 bt5 => ?_) hq
  have sa : AnyV Cs S1 (.str (Str.ofString "a")) := .str _ (by decide)
  have sb : AnyV Cs S1 (.str (Str.ofString "b")) := .str _ (by decide)
  have sx : AnyV Cs S1 (.str (Str.ofString "x")) := .str _ (by decide)
  have sy : AnyV Cs S1 (.str (Str.ofString "y")) := .str _ (by decide)
  have hG : ∀ u ∈ [x, U.tup [x], U.tup [U.tup [.str (Str.ofString "a"), .str (Str.ofString "b")], x], U.loc p, U.tup [x, U.tup [.str (Str.ofString "x"), .str (Str.ofString "y")]]], Gd Cs b S1 u :=
    all_cons hx1 (all_cons (gd_tup (by simp) (all_cons hx1.1 all_nil)) (all_cons (gd_tup (by simp) (all_cons (.tup _ (by decide) (all_cons sa (all_cons sb all_nil))) (all_cons hx1.1 all_nil))) (all_cons g1 (all_cons (gd_tup (by simp) (all_cons hx1.1 (all_cons (.tup _ (by decide) (all_cons sx (all_cons sy all_nil))) all_nil))) all_nil))))
  exact hK u S5 ((hG u hu).but bt5 hb5) (bt1.trans bt5) hb5
theorem r7 {y : U} (hy : AnyV Cs S y) (hK : D.nx (row12 x0 b o2 o3 o4 o5 (some y) (some (.bl (areDeedsU y))) o8 o9 o10 o11) S) : ulaw_r7 Cs D (row12 x0 b o2 o3 o4 o5 (some y) o7 o8 o9 o10 o11) S := by
  simp only [ulaw_r7]
  walk_at "ux"
  refine isi_any hy (by decide) ?_
  walk_at "ux"
  rw [isi_tup hy]
  cases hy with
  | tup us hl h =>
    walk_at "ux"
    refine ⟨us, rfl, big (by omega), ?_⟩
    refine lcT_filter (fun u => !isDeedU u) id trivial _ ?_ ?_
    · intro u hu Q q
      walk_at "ux"
      refine ⟨u, rfl, h u hu, ?_⟩
      walk_at "ux"
      exact q _ fun Q1 _ h => h
    · rw [List.map_id, filter_none]
      simp only [Bool.not_not]
      exact hK
  | _ => exact hK
theorem r8 {y : U} {p q : Addr} {a1 a2 a3 a4 : Bool} (hb : IsBag S b) (hy : AnyV Cs S y) (hp : S p = some (.lst [.bl a1, .bl a2, .bl a3, .bl a4])) (hq : S q = some (.lst [.bl a1, .bl a2, .bl a3, .bl a4])) (hK : ∀ S', IsBag S' b → D.nx (row12 x0 b o2 o3 (some (.loc p)) (some (.loc q)) (some y) (some (.bl (areDeedsU y))) o8 o9 o10 o11) S') :
    ulaw_r8 Cs D (row12 x0 b o2 o3 (some (.loc p)) (some (.loc q)) (some y) (some (.bl (areDeedsU y))) o8 o9 o10 o11) S := by
  simp only [ulaw_r8]
  walk_at "ux"
  refine ⟨y, rfl, hy, by decide, p, _, rfl, hp, big (by simp), fun p1 h1 => ?_⟩
  refine ⟨by decide, q, [.bl a1, .bl a2, .bl a3, .bl a4], rfl, by rw [put_keep h1 (by rw [hq]; exact fun z => nomatch z)]; exact hq, big (by simp), fun p2 h2 => ?_⟩
  have e1 : sput (sput S p1 (.lst [.bl a1, .bl a2, .bl a3, .bl a4, .bl (areDeedsU y)])) p2 (.lst [.bl a1, .bl a2, .bl a3, .bl a4, .bl (areDeedsU y)]) p1 = some (.lst [.bl a1, .bl a2, .bl a3, .bl a4, .bl (areDeedsU y)]) := by
    have h3 : sput S p1 (.lst [.bl a1, .bl a2, .bl a3, .bl a4, .bl (areDeedsU y)]) p2 = none := h2
    rw [put_keep h3 (by rw [sput_same]; exact fun z => nomatch z), sput_same]
  refine ⟨_, _, .list [.bool a1, .bool a2, .bool a3, .bool a4, .bool (areDeedsU y)], rfl, uDat5 e1, uDat5 sput_same, fit5.shaped, fit5.shw, ?_⟩
  walk_at "ux"
  exact hK _ ((hb.new h1).new h2)
theorem r10 (hb : IsBag S b) (hK : ∀ (i j : Int) S', i.natAbs < 2 ^ 120 → j.natAbs < 2 ^ 120 → IsBag S' b → D.nx (row12 x0 b o2 o3 o4 o5 o6 o7 o8 (some (.int i)) (some (.int j)) o11) S') : ulaw_r10 Cs D (row12 x0 b o2 o3 o4 o5 o6 o7 o8 o9 o10 o11) S := by
  simp only [ulaw_r10]
  walk_at "ux"
  refine ⟨b, rfl, hb, fun i S3 z2 hb3 bt3 => ?_⟩
  refine ⟨b, rfl, hb3, fun j S4 z3 hb4 bt4 => ?_⟩
  walk_at "ux"
  exact hK i j S4 z2 z3 hb4
theorem r11 {j : Int} (hj : j.natAbs < 2 ^ 120) (hK : ∀ (j : Int), j ≠ 0 → j.natAbs < 2 ^ 120 → D.nx (row12 x0 b o2 o3 o4 o5 o6 o7 o8 o9 (some (.int j)) o11) S) : ulaw_r11 Cs D (row12 x0 b o2 o3 o4 o5 o6 o7 o8 o9 (some (.int j)) o11) S := by
  simp only [ulaw_r11]
  walk_at "ux"
  refine neA_int ?_
  walk_at "ux"
  by_cases h : j = 0
  · rw [decide_eq_true h]
    walk_at "ux"
    exact hK _ (by decide) (by decide)
  · rw [decide_eq_false h]
    walk_at "ux"
    exact hK _ h hj
theorem r12 {i j : Int} (hi : i.natAbs < 2 ^ 120) (hj : j.natAbs < 2 ^ 120) (h0 : j ≠ 0) (hK : D.nx (row12 x0 b o2 o3 o4 o5 o6 o7 o8 (some (.int i)) (some (.int j)) (some (.int ((if j < 0 then -1 else 1) * (Nat.gcd i.natAbs j.natAbs : Nat))))) S) : ulaw_r12 Cs D (row12 x0 b o2 o3 o4 o5 o6 o7 o8 (some (.int i)) (some (.int j)) o11) S := by
  simp only [ulaw_r12]
  walk_at "ux"
  refine ⟨_, _, rfl, by omega, by omega, by omega, by omega, ?_⟩
  rw [Int.natAbs_natCast, Int.natAbs_natCast]
  by_cases h : 0 < j
  · rw [decide_eq_true h]
    rw [if_neg (by omega)] at hK
    walk_at "ux"
    refine ⟨.inr (by omega), ?_⟩
    rw [Int.mul_comm]
    exact hK
  · rw [decide_eq_false h]
    rw [if_pos (by omega)] at hK
    walk_at "ux"
    refine ⟨.inr (by omega), ?_⟩
    rw [Int.mul_comm]
    exact hK
theorem r13 {i j : Int} (hi : i.natAbs < 2 ^ 120) (hj : j.natAbs < 2 ^ 120) (h0 : j ≠ 0) (hK : D.nx (row12 x0 b o2 o3 o4 o5 o6 o7 o8 (some (.int i)) (some (.int j)) (some (.int ((if j < 0 then -1 else 1) * (Nat.gcd i.natAbs j.natAbs : Nat))))) S) :
    ulaw_r13 Cs D (row12 x0 b o2 o3 o4 o5 o6 o7 o8 (some (.int i)) (some (.int j)) (some (.int ((if j < 0 then -1 else 1) * (Nat.gcd i.natAbs j.natAbs : Nat))))) S := by
  obtain ⟨h1, h2⟩ := gcd_small (n := i) h0 (by omega)
  have hc : ∀ k : Int, CDivX k ((if j < 0 then -1 else 1) * (Nat.gcd i.natAbs j.natAbs : Nat)) := fun k => cdivx (by split <;> omega) (by split <;> omega)
  simp only [ulaw_r13]
  walk_at "ux"
  refine ⟨i, j, rfl, h0, by omega, by omega, ?_⟩
  refine ⟨hc _, hc _, by decide, ?_⟩
  have f := fit2 (i := i.fdiv ((if j < 0 then -1 else 1) * (Nat.gcd i.natAbs j.natAbs : Nat))) (j := j.fdiv ((if j < 0 then -1 else 1) * (Nat.gcd i.natAbs j.natAbs : Nat))) (fdiv_small (by omega)) (fdiv_small (by omega))
  refine ⟨_, _, _, rfl, uDat2, uDat2, f.shaped, f.shw, ?_⟩
  walk_at "ux"
  exact hK
theorem vlaw : ∀ us S P, Φlaw Cs us S P → ulaw Cs (rtD P) (ustart 12 us) S := by
  rintro us S P ⟨ns, rfl, hl, hp⟩
  simp only [ulaw, ulaw_r1]
  walk_at "ux"
  refine ⟨ns, rfl, hl, fun b S1 hb bt => ?_⟩
  simp only [ulaw_r2, uFor]
  walk_at "ux"
  refine ⟨by decide, by decide, ?_⟩
  refine turns_inv (fun i σ S' => IsBag S' b ∧ ∃ o2 o3 o4 o5 o6 o7 o8 o9 o10 o11 : Option U, σ = row12 (.rol (ns.map U.int)) b o2 o3 o4 o5 o6 o7 o8 o9 o10 o11) _ 0 _ S1 (fun _ _ _ _ _ => trivial) ?_ ?_ ?_
  · rintro j u σ S2 K hu ⟨hb2, o2, o3, o4, o5, o6, o7, o8, o9, o10, o11, rfl⟩ hK
    walk_at "ux"
    refine r3 hb2 fun x S3 hx hb3 => ?_
    walk_at "ux"
    refine r4 hb3 hx.1 fun p S4 hp4 np bt4 hb4 => ?_
    walk_at "ux"
    refine r5 hb4 (hx.1.but bt4 hb4) fun q S5 hq5 nq bt5 hb5 => ?_
    walk_at "ux"
    refine r6 hb5 (hx.but (bt4.trans bt5) hb5) fun y S6 hy bt6 hb6 => ?_
    walk_at "ux"
    refine r7 hy.1 ?_
    walk_at "ux"
    refine r8 hb6 hy.1 (by rw [(bt5.trans bt6) p np (by rw [hp4]; exact fun z => nomatch z)]; exact hp4) (by rw [bt6 q nq (by rw [hq5]; exact fun z => nomatch z)]; exact hq5) fun S8 hb8 => ?_
    walk_at "ux"
    refine r10 hb8 fun i j S10 hi hj hb10 => ?_
    walk_at "ux"
    refine r11 hj fun j h0 hj => ?_
    walk_at "ux"
    refine r12 hi hj h0 ?_
    walk_at "ux"
    refine r13 hi hj h0 ?_
    exact hK _ _ ⟨hb10, _, _, _, _, _, _, _, _, _, _, rfl⟩
  · rintro σ S2 ⟨hb2, o2, o3, o4, o5, o6, o7, o8, o9, o10, o11, rfl⟩
    walk_at "ux"
    exact hp S2
  · exact ⟨hb, none, none, none, none, none, none, none, none, none, none, rfl⟩
end
end K01

set_option Elab.async false
set_option linter.all false
set_option maxRecDepth 100000
namespace K01
open PySem L2 Y
theorem none__law_any (Cs : List Addr) : ∀ us S P, ¬ Φ_law_any 0 Cs us S P := by
  rintro us S P ⟨b, d, rfl, hb, hd, hdn, _⟩
  omega
theorem start_law (Cs : List Addr) : ∀ (ns : List Int) (S : Sto) (Q : UK), ns.length ≤ 63 → (∀ z ∈ ns, Builtin.Int.intBits z ≤ 1048576) → Q = (fun u _ => u = .bl true) → Φlaw Cs [.rol (ns.map U.int)] S Q := by
  rintro ns S Q hl _ rfl
  exact ⟨ns, rfl, hl, fun _ => rfl⟩
end K01

set_option Elab.async false
set_option linter.all false
set_option maxRecDepth 100000
set_option maxHeartbeats 4000000
namespace K01
open PySem L2 Y PySem.Spec PyProof.Rows
def top (i : Nat) : Stmt := PySem.Challenge.pw_partedmeet_k01_small_forms_of_any_value.main.body.getD i (.Pass ⟨0, 0, 0, 0⟩)
structure Txt (K : PySem.W.Frag) (mg : Str → Option Value) (Cs : List Addr) : Prop where
  g_gcd : mg "gcd" = some (.builtin "math.gcd")
  m_abs : mg "abs" = none
  m_all : mg "all" = none
  m_bool : mg "bool" = none
  m_int : mg "int" = none
  m_isinstance : mg "isinstance" = none
  m_len : mg "len" = none
  m_range : mg "range" = none
  m_repr : mg "repr" = none
  m_str : mg "str" = none
  m_tuple : mg "tuple" = none
  c_MOST_LETTERS : ∃ t, mg "MOST_LETTERS" = some (.int 12 t)
  kin : Kin K (kinC Cs)
section
variable {P : Program} {w : World} {K : PySem.W.Frag} {mg : Str → Option Value} {base : Heap} {Cs : List Addr}
abbrev sis_integer : Stmt := top 3
theorem scis_integer : FnScope ["thing"] ["thing"] (defScope sis_integer) := ⟨rfl, rfl, rfl, by decide +kernel, rfl, by decide +kernel, by decide +kernel⟩
theorem dis_integer (T : Txt K mg Cs) {f : Addr} (cdv : Value) (A : Around) (fr : List Env) (s : Shared) (H : Hp) (E : XK)
    (hgd : (A.deeper (envOfC "is_integer" (defScope sis_integer) s.heap.objs.size f cdv)).guards = some []) (hr : Room 0 (A.deeper (envOfC "is_integer" (defScope sis_integer) s.heap.objs.size f cdv))) :
    PSs (cxOf CX0 P w K mg base ["thing"] "is_integer" (defScope sis_integer) f cdv A fr s H E).nox (defBody sis_integer) (tWS K (uis_integer Cs)) :=
  have Sc := scis_integer
  (wss_one (ws_ret (w_andV (w_callB call_isA (cl_isi T.kin) (by rfl) T.m_isinstance bo_isinstance (w_cons (w_var (pv 0)) (w_cons (w_ty (by rfl) T.m_int bo_int) w_nil))) (w_oneV (w_notV (w_callB call_isA (cl_isi T.kin) (by rfl) T.m_isinstance bo_isinstance (w_cons (w_var (pv 0)) (w_cons (w_ty (by rfl) T.m_bool bo_bool) w_nil))))))))
abbrev sis_name : Stmt := top 4
theorem scis_name : FnScope ["thing", "letter"] ["thing"] (defScope sis_name) := ⟨rfl, rfl, rfl, by decide +kernel, rfl, by decide +kernel, by decide +kernel⟩
theorem dis_name (T : Txt K mg Cs) {f : Addr} (cdv : Value) (A : Around) (fr : List Env) (s : Shared) (H : Hp) (E : XK)
    (hgd : (A.deeper (envOfC "is_name" (defScope sis_name) s.heap.objs.size f cdv)).guards = some []) (hr : Room 0 (A.deeper (envOfC "is_name" (defScope sis_name) s.heap.objs.size f cdv))) :
    PSs (cxOf CX0 P w K mg base ["thing", "letter"] "is_name" (defScope sis_name) f cdv A fr s H E).nox (defBody sis_name) (tWS K (uis_name Cs)) :=
  have Sc := scis_name
  (wss_cons (ws_if (PW.pt (w_orT (w_notT (w_tru (w_callB call_isA (cl_isi T.kin) (by rfl) T.m_isinstance bo_isinstance (w_cons (w_var (pv 0)) (w_cons (w_ty (by rfl) T.m_str bo_str) w_nil))))) (w_or1 (w_notT (w_chainT op_leA op_leA bl_leA bl_leA w_int (w_callB call_len cl_len (by rfl) T.m_len bo_len (w_cons (w_var (pv 0)) w_nil)) (w_c (pe_cI (by rfl) T.c_MOST_LETTERS) (fun _ => rfl))))))) (wss_one (ws_ret w_bl)) wss_nil) (wss_one (ws_ret (w_onB (cr_all rfl) ll_all (by rfl) T.m_all bo_all (w_FL (w_lc (own := [("letter", 1)]) rfl Sc.nd (wi_S (w_var (pv 0))) (blkOk_by (N := ["thing", "letter"]) (sc := defScope sis_name) (by decide +kernel)) (tg_name (by decide)) (fun _ _ _ _ _ => pg_name (i := 1) Sc.nd rfl (Or.inl rfl)) (fun _ _ _ _ _ => wt_nil) (fun _ _ _ _ _ => (w_chain op_leA op_leA bl_leA bl_leA w_str (w_var (pv 1)) w_str))))))))
abbrev s_is_tuple_of : Stmt := top 9
theorem sc_is_tuple_of : FnScope ["thing", "many"] ["thing", "many"] (defScope s_is_tuple_of) := ⟨rfl, rfl, rfl, by decide +kernel, rfl, by decide +kernel, by decide +kernel⟩
theorem d_is_tuple_of (T : Txt K mg Cs) {f : Addr} (cdv : Value) (A : Around) (fr : List Env) (s : Shared) (H : Hp) (E : XK)
    (hgd : (A.deeper (envOfC "_is_tuple_of" (defScope s_is_tuple_of) s.heap.objs.size f cdv)).guards = some []) (hr : Room 0 (A.deeper (envOfC "_is_tuple_of" (defScope s_is_tuple_of) s.heap.objs.size f cdv))) :
    PSs (cxOf CX0 P w K mg base ["thing", "many"] "_is_tuple_of" (defScope s_is_tuple_of) f cdv A fr s H E).nox (defBody s_is_tuple_of) (tWS K (u_is_tuple_of Cs)) :=
  have Sc := sc_is_tuple_of
  (wss_one (ws_ret (w_andV (w_callB call_isA (cl_isi T.kin) (by rfl) T.m_isinstance bo_isinstance (w_cons (w_var (pv 0)) (w_cons (w_ty (by rfl) T.m_tuple bo_tuple) w_nil))) (w_oneV (w_cmp (op_eqA hr.units) bl_eqA (w_callB call_len cl_len (by rfl) T.m_len bo_len (w_cons (w_var (pv 0)) w_nil)) (w_var (pv 1)) (nomark _))))))
abbrev sis_fraction : Stmt := top 5
theorem scis_fraction : FnScope ["thing"] ["thing"] (defScope sis_fraction) := ⟨rfl, rfl, rfl, by decide +kernel, rfl, by decide +kernel, by decide +kernel⟩
theorem dis_fraction (T : Txt K mg Cs) (C__is_tuple_of : Cal P w K mg base "_is_tuple_of" 1 (Φ_is_tuple_of Cs)) (C_is_integer : Cal P w K mg base "is_integer" 1 (Φis_integer Cs)) {f : Addr} (cdv : Value) (A : Around) (fr : List Env) (s : Shared) (H : Hp) (E : XK)
    (hgd : (A.deeper (envOfC "is_fraction" (defScope sis_fraction) s.heap.objs.size f cdv)).guards = some []) (hr : Room 1 (A.deeper (envOfC "is_fraction" (defScope sis_fraction) s.heap.objs.size f cdv))) :
    PSs (cxOf CX0 P w K mg base ["thing"] "is_fraction" (defScope sis_fraction) f cdv A fr s H E).nox (defBody sis_fraction) (tWS K (uis_fraction Cs)) :=
  have Sc := scis_fraction
  (wss_cons (ws_if (PW.pt (w_orT (w_notT (w_tru (w_callC C__is_tuple_of hgd (hr.mono (by decide)) (w_cons (w_var (pv 0)) (w_cons w_int w_nil))))) (w_orT (w_notT (w_tru (w_callC C_is_integer hgd (hr.mono (by decide)) (w_cons (w_ix (w_var (pv 0)) w_int) w_nil)))) (w_or1 (w_notT (w_tru (w_callC C_is_integer hgd (hr.mono (by decide)) (w_cons (w_ix (w_var (pv 0)) w_int) w_nil)))))))) (wss_one (ws_ret w_bl)) wss_nil) (wss_one (ws_ret (w_andV (w_cmp op_ge bl_ge (w_ix (w_var (pv 0)) w_int) w_int (nomark _)) (w_oneV (w_cmp (op_eqA hr.units) bl_eqA (w_callM cr_gcd cl_gcd (by rfl) T.g_gcd (w_cons (w_ix (w_var (pv 0)) w_int) (w_cons (w_ix (w_var (pv 0)) w_int) w_nil))) w_int (nomark _)))))))
abbrev sreduced : Stmt := top 6
theorem screduced : FnScope ["num", "den", "common"] ["num", "den"] (defScope sreduced) := ⟨rfl, rfl, rfl, by decide +kernel, rfl, by decide +kernel, by decide +kernel⟩
theorem dreduced (T : Txt K mg Cs) {f : Addr} (cdv : Value) (A : Around) (fr : List Env) (s : Shared) (H : Hp) (E : XK)
    (hgd : (A.deeper (envOfC "reduced" (defScope sreduced) s.heap.objs.size f cdv)).guards = some []) (hr : Room 0 (A.deeper (envOfC "reduced" (defScope sreduced) s.heap.objs.size f cdv))) :
    PSs (cxOf CX0 P w K mg base ["num", "den", "common"] "reduced" (defScope sreduced) f cdv A fr s H E).nox (defBody sreduced) (tWS K (ureduced Cs)) :=
  have Sc := screduced
  (wss_cons (ws_set (i := 2) Sc.nd rfl (Or.inl rfl) (w_callM cr_gcd cl_gcd (by rfl) T.g_gcd (w_cons (w_var (pv 0)) (w_cons (w_var (pv 1)) w_nil)))) (wss_cons (ws_if (w_cmpT op_lt bl_lt (w_var (pv 1)) w_int (nomark _)) (wss_one (ws_set (i := 2) Sc.nd rfl (Or.inl rfl) (w_neg (w_var (pv 2))))) wss_nil) (wss_one (ws_ret (w_tup (w_cons (w_divX (w_var (pv 0)) (w_var (pv 2))) (w_cons (w_divX (w_var (pv 1)) (w_var (pv 2))) w_nil)))))))
abbrev sis_deed : Stmt := top 7
theorem scis_deed : FnScope ["thing"] ["thing"] (defScope sis_deed) := ⟨rfl, rfl, rfl, by decide +kernel, rfl, by decide +kernel, by decide +kernel⟩
theorem dis_deed (T : Txt K mg Cs) (C__is_tuple_of : Cal P w K mg base "_is_tuple_of" 1 (Φ_is_tuple_of Cs)) (C_is_name : Cal P w K mg base "is_name" 1 (Φis_name Cs)) {f : Addr} (cdv : Value) (A : Around) (fr : List Env) (s : Shared) (H : Hp) (E : XK)
    (hgd : (A.deeper (envOfC "is_deed" (defScope sis_deed) s.heap.objs.size f cdv)).guards = some []) (hr : Room 1 (A.deeper (envOfC "is_deed" (defScope sis_deed) s.heap.objs.size f cdv))) :
    PSs (cxOf CX0 P w K mg base ["thing"] "is_deed" (defScope sis_deed) f cdv A fr s H E).nox (defBody sis_deed) (tWS K (uis_deed Cs)) :=
  have Sc := scis_deed
  (wss_one (ws_ret (w_andV (w_callC C__is_tuple_of hgd (hr.mono (by decide)) (w_cons (w_var (pv 0)) (w_cons w_int w_nil))) (w_andV (w_callC C_is_name hgd (hr.mono (by decide)) (w_cons (w_ix (w_var (pv 0)) w_int) w_nil)) (w_oneV (w_callC C_is_name hgd (hr.mono (by decide)) (w_cons (w_ix (w_var (pv 0)) w_int) w_nil)))))))
abbrev sare_deeds : Stmt := top 8
theorem scare_deeds : FnScope ["thing", "part"] ["thing"] (defScope sare_deeds) := ⟨rfl, rfl, rfl, by decide +kernel, rfl, by decide +kernel, by decide +kernel⟩
theorem dare_deeds (T : Txt K mg Cs) (C_is_deed : Cal P w K mg base "is_deed" 2 (Φis_deed Cs)) {f : Addr} (cdv : Value) (A : Around) (fr : List Env) (s : Shared) (H : Hp) (E : XK)
    (hgd : (A.deeper (envOfC "are_deeds" (defScope sare_deeds) s.heap.objs.size f cdv)).guards = some []) (hr : Room 2 (A.deeper (envOfC "are_deeds" (defScope sare_deeds) s.heap.objs.size f cdv))) :
    PSs (cxOf CX0 P w K mg base ["thing", "part"] "are_deeds" (defScope sare_deeds) f cdv A fr s H E).nox (defBody sare_deeds) (tWS K (uare_deeds Cs)) :=
  have Sc := scare_deeds
  (wss_one (ws_ret (w_andV (w_callB call_isA (cl_isi T.kin) (by rfl) T.m_isinstance bo_isinstance (w_cons (w_var (pv 0)) (w_cons (w_ty (by rfl) T.m_tuple bo_tuple) w_nil))) (w_oneV (w_onB (cr_all rfl) ll_all (by rfl) T.m_all bo_all (w_FL (w_lc (own := [("part", 1)]) rfl Sc.nd (wi_V (w_var (pv 0))) (blkOk_by (N := ["thing", "part"]) (sc := defScope sare_deeds) (by decide +kernel)) (tg_name (by decide)) (fun _ _ _ _ _ => pg_name (i := 1) Sc.nd rfl (Or.inl rfl)) (fun _ _ _ _ _ => wt_nil) (fun _ _ _ _ _ => (w_callC C_is_deed hgd (hr.mono (by decide)) (w_cons (w_var (pv 1)) w_nil))))))))))
abbrev s_law_bag : Stmt := top 14
theorem sc_law_bag : FnScope ["script", "cell"] ["script"] (defScope s_law_bag) := ⟨rfl, rfl, rfl, by decide +kernel, rfl, by decide +kernel, by decide +kernel⟩
theorem d_law_bag (T : Txt K mg Cs) {f : Addr} (cdv : Value) (A : Around) (fr : List Env) (s : Shared) (H : Hp) (E : XK)
    (hgd : (A.deeper (envOfC "_law_bag" (defScope s_law_bag) s.heap.objs.size f cdv)).guards = some []) (hr : Room 0 (A.deeper (envOfC "_law_bag" (defScope s_law_bag) s.heap.objs.size f cdv))) :
    PSs (cxOf CX0 P w K mg base ["script", "cell"] "_law_bag" (defScope s_law_bag) f cdv A fr s H E).nox (defBody s_law_bag) (tWS K (u_law_bag Cs)) :=
  have Sc := sc_law_bag
  (wss_one (ws_ret (w_new (w_lst (w_cons w_int (w_cons w_int (w_cons w_int (w_cons (w_new (w_lc (own := [("cell", 1)]) rfl Sc.nd (wi_F (w_slL (w_var (pv 0)) w_noP (w_part w_int))) (blkOk_by (N := ["script", "cell"]) (sc := defScope s_law_bag) (by decide +kernel)) (tg_name (by decide)) (fun _ _ _ _ _ => pg_name (i := 1) Sc.nd rfl (Or.inl rfl)) (fun _ _ _ _ _ => wt_nil) (fun _ _ _ _ _ => (w_callB call_abs cl_abs (by rfl) T.m_abs bo_abs (w_cons (w_var (pv 1)) w_nil))))) w_nil))))))))
abbrev s_law_take : Stmt := top 15
theorem sc_law_take : FnScope ["bag", "many", "cell", "stirred", "value", "begin", "second"] ["bag", "many"] (defScope s_law_take) := ⟨rfl, rfl, rfl, by decide +kernel, rfl, by decide +kernel, by decide +kernel⟩
theorem d_law_take (T : Txt K mg Cs) {f : Addr} (cdv : Value) (A : Around) (fr : List Env) (s : Shared) (H : Hp) (E : XK)
    (hgd : (A.deeper (envOfC "_law_take" (defScope s_law_take) s.heap.objs.size f cdv)).guards = some []) (hr : Room 0 (A.deeper (envOfC "_law_take" (defScope s_law_take) s.heap.objs.size f cdv))) :
    PSs (cxOf CX0 P w K mg base ["bag", "many", "cell", "stirred", "value", "begin", "second"] "_law_take" (defScope s_law_take) f cdv A fr s H E).nox (defBody s_law_take) (tWS K (u_law_take Cs)) :=
  have Sc := sc_law_take
  (wss_cons (ws_if (w_cmpT (op_eqA hr.units) bl_eqA (w_ix (w_var (pv 0)) w_int) w_int (nomark _)) (wss_cons (ws_set (i := 2) Sc.nd rfl (Or.inl rfl) (w_ixF (w_catF (w_slL (w_ix (w_var (pv 0)) w_int) (w_part (w_ix (w_var (pv 0)) w_int)) w_noP) (w_lst (w_cons w_int w_nil))) w_int)) (wss_cons (ws_augL (w_var (pv 0)) w_int w_int) (wss_cons (ws_if (w_cmpT op_ge bl_ge (w_var (pv 2)) (w_pow w_int w_int) (nomark _)) (wss_one (ws_setL (w_var (pv 0)) w_int (w_var (pv 2)) (fun x y => pg_sub x y set_list))) wss_nil) (wss_cons (ws_set (i := 3) Sc.nd rfl (Or.inl rfl) (w_add (w_add (w_mul (w_ix (w_var (pv 0)) w_int) w_int) (w_mod (w_callT call_int1 cl_int (by rfl) T.m_int bo_int (w_cons (w_var (pv 2)) w_nil)) w_int)) (w_mul w_int (w_ix (w_var (pv 0)) w_int)))) (wss_one (ws_setL (w_var (pv 0)) w_int (w_mod (w_callT call_int1 cl_int (by rfl) T.m_int bo_int (w_cons (w_var (pv 3)) w_nil)) w_int) (fun x y => pg_sub x y set_list))))))) wss_nil) (wss_cons (ws_if (w_cmpT op_gt bl_gt (w_ix (w_var (pv 0)) w_int) w_int (nomark _)) (wss_cons (ws_set (i := 4) Sc.nd rfl (Or.inl rfl) (w_mod (w_callT call_int1 cl_int (by rfl) T.m_int bo_int (w_cons (w_ix (w_var (pv 0)) w_int) w_nil)) (w_var (pv 1)))) (wss_cons (ws_setL (w_var (pv 0)) w_int (w_divW (w_callT call_int1 cl_int (by rfl) T.m_int bo_int (w_cons (w_ix (w_var (pv 0)) w_int) w_nil)) (w_var (pv 1))) (fun x y => pg_sub x y set_list)) (wss_one (ws_ret (w_var (pv 4)))))) wss_nil) (wss_cons (ws_set (i := 5) Sc.nd rfl (Or.inl rfl) (w_mod (w_callT call_int1 cl_int (by rfl) T.m_int bo_int (w_cons (w_mul (w_add (w_ix (w_var (pv 0)) w_int) w_int) w_int) w_nil)) w_int)) (wss_cons (ws_set (i := 6) Sc.nd rfl (Or.inl rfl) (w_mod (w_callT call_int1 cl_int (by rfl) T.m_int bo_int (w_cons (w_mul (w_mod (w_callT call_int1 cl_int (by rfl) T.m_int bo_int (w_cons (w_mul (w_var (pv 5)) (w_var (pv 5))) w_nil)) w_int) w_int) w_nil)) w_int)) (wss_one (ws_ret (w_mod (w_callT call_int1 cl_int (by rfl) T.m_int bo_int (w_cons (w_divW (w_var (pv 6)) w_int) w_nil)) (w_var (pv 1)))))))))
abbrev s_law_some : Stmt := top 16
theorem sc_law_some : FnScope ["bag", "things"] ["bag", "things"] (defScope s_law_some) := ⟨rfl, rfl, rfl, by decide +kernel, rfl, by decide +kernel, by decide +kernel⟩
theorem d_law_some (T : Txt K mg Cs) (C__law_take : Cal P w K mg base "_law_take" 1 (Φ_law_take Cs)) {f : Addr} (cdv : Value) (A : Around) (fr : List Env) (s : Shared) (H : Hp) (E : XK)
    (hgd : (A.deeper (envOfC "_law_some" (defScope s_law_some) s.heap.objs.size f cdv)).guards = some []) (hr : Room 1 (A.deeper (envOfC "_law_some" (defScope s_law_some) s.heap.objs.size f cdv))) :
    PSs (cxOf CX0 P w K mg base ["bag", "things"] "_law_some" (defScope s_law_some) f cdv A fr s H E).nox (defBody s_law_some) (tWS K (u_law_some Cs)) :=
  have Sc := sc_law_some
  (wss_one (ws_ret (w_ixA (w_var (pv 1)) (w_callC C__law_take hgd (hr.mono (by decide)) (w_cons (w_var (pv 0)) (w_cons (w_callB call_len cl_len (by rfl) T.m_len bo_len (w_cons (w_var (pv 1)) w_nil)) w_nil))))))
abbrev s_law_alike : Stmt := top 17
theorem sc_law_alike : FnScope ["found", "due"] ["found", "due"] (defScope s_law_alike) := ⟨rfl, rfl, rfl, by decide +kernel, rfl, by decide +kernel, by decide +kernel⟩
theorem d_law_alike (T : Txt K mg Cs) {f : Addr} (cdv : Value) (A : Around) (fr : List Env) (s : Shared) (H : Hp) (E : XK)
    (hgd : (A.deeper (envOfC "_law_alike" (defScope s_law_alike) s.heap.objs.size f cdv)).guards = some []) (hr : Room 0 (A.deeper (envOfC "_law_alike" (defScope s_law_alike) s.heap.objs.size f cdv))) :
    PSs (cxOf CX0 P w K mg base ["found", "due"] "_law_alike" (defScope s_law_alike) f cdv A fr s H E).nox (defBody s_law_alike) (tWS K (u_law_alike Cs)) :=
  have Sc := sc_law_alike
  (wss_one (ws_ret (w_andV (w_cmp (op_eqA hr.units) bl_eqA (w_var (pv 0)) (w_var (pv 1)) (nomark _)) (w_oneV (w_cmp (op_eqA hr.units) bl_eqA (w_callB (call_reprD hgd hr.units) cl_repr (by rfl) T.m_repr bo_repr (w_cons (w_var (pv 0)) w_nil)) (w_callB (call_reprD hgd hr.units) cl_repr (by rfl) T.m_repr bo_repr (w_cons (w_var (pv 1)) w_nil)) (nomark _))))))
abbrev s_law_is_int : Stmt := top 18
theorem sc_law_is_int : FnScope ["thing"] ["thing"] (defScope s_law_is_int) := ⟨rfl, rfl, rfl, by decide +kernel, rfl, by decide +kernel, by decide +kernel⟩
theorem d_law_is_int (T : Txt K mg Cs) {f : Addr} (cdv : Value) (A : Around) (fr : List Env) (s : Shared) (H : Hp) (E : XK)
    (hgd : (A.deeper (envOfC "_law_is_int" (defScope s_law_is_int) s.heap.objs.size f cdv)).guards = some []) (hr : Room 0 (A.deeper (envOfC "_law_is_int" (defScope s_law_is_int) s.heap.objs.size f cdv))) :
    PSs (cxOf CX0 P w K mg base ["thing"] "_law_is_int" (defScope s_law_is_int) f cdv A fr s H E).nox (defBody s_law_is_int) (tWS K (u_law_is_int Cs)) :=
  have Sc := sc_law_is_int
  (wss_one (ws_ret (w_andV (w_callB call_isA (cl_isi T.kin) (by rfl) T.m_isinstance bo_isinstance (w_cons (w_var (pv 0)) (w_cons (w_ty (by rfl) T.m_int bo_int) w_nil))) (w_oneV (w_notV (w_callB call_isA (cl_isi T.kin) (by rfl) T.m_isinstance bo_isinstance (w_cons (w_var (pv 0)) (w_cons (w_ty (by rfl) T.m_bool bo_bool) w_nil))))))))
abbrev s_law_is_name : Stmt := top 19
theorem sc_law_is_name : FnScope ["thing", "sign"] ["thing"] (defScope s_law_is_name) := ⟨rfl, rfl, rfl, by decide +kernel, rfl, by decide +kernel, by decide +kernel⟩
theorem d_law_is_name (T : Txt K mg Cs) {f : Addr} (cdv : Value) (A : Around) (fr : List Env) (s : Shared) (H : Hp) (E : XK)
    (hgd : (A.deeper (envOfC "_law_is_name" (defScope s_law_is_name) s.heap.objs.size f cdv)).guards = some []) (hr : Room 0 (A.deeper (envOfC "_law_is_name" (defScope s_law_is_name) s.heap.objs.size f cdv))) :
    PSs (cxOf CX0 P w K mg base ["thing", "sign"] "_law_is_name" (defScope s_law_is_name) f cdv A fr s H E).nox (defBody s_law_is_name) (tWS K (u_law_is_name Cs)) :=
  have Sc := sc_law_is_name
  (wss_cons (ws_if (PW.pt (w_orT (w_notT (w_tru (w_callB call_isA (cl_isi T.kin) (by rfl) T.m_isinstance bo_isinstance (w_cons (w_var (pv 0)) (w_cons (w_ty (by rfl) T.m_str bo_str) w_nil))))) (w_or1 (w_notT (w_chainT op_leA op_leA bl_leA bl_leA w_int (w_callB call_len cl_len (by rfl) T.m_len bo_len (w_cons (w_var (pv 0)) w_nil)) w_int))))) (wss_one (ws_ret w_bl)) wss_nil) (wss_one (ws_ret (w_empF hr.units0 (w_lc (own := [("sign", 1)]) rfl Sc.nd (wi_S (w_var (pv 0))) (blkOk_by (N := ["thing", "sign"]) (sc := defScope s_law_is_name) (by decide +kernel)) (tg_name (by decide)) (fun _ _ _ _ _ => pg_name (i := 1) Sc.nd rfl (Or.inl rfl)) (fun _ _ _ _ _ => wt_one (w_cmpT op_notIn_sign bl_niS (w_var (pv 1)) w_str (by with_unfolding_all rfl))) (fun _ _ _ _ _ => (w_var (pv 1))))))))
abbrev s_law_common : Stmt := top 20
theorem sc_law_common : FnScope ["one", "other", "turn"] ["one", "other"] (defScope s_law_common) := ⟨rfl, rfl, rfl, by decide +kernel, rfl, by decide +kernel, by decide +kernel⟩
theorem d_law_common (T : Txt K mg Cs) {f : Addr} (cdv : Value) (A : Around) (fr : List Env) (s : Shared) (H : Hp) (E : XK)
    (hgd : (A.deeper (envOfC "_law_common" (defScope s_law_common) s.heap.objs.size f cdv)).guards = some []) (hr : Room 0 (A.deeper (envOfC "_law_common" (defScope s_law_common) s.heap.objs.size f cdv))) :
    PSs (cxOf CX0 P w K mg base ["one", "other", "turn"] "_law_common" (defScope s_law_common) f cdv A fr s H E).nox (defBody s_law_common) (tWS K (u_law_common Cs)) :=
  have Sc := sc_law_common
  (wss_cons (ws_for PassesOwn.never rfl (wi_R1 (by rfl) T.m_range w_int) (wg_name (pg_name (i := 2) Sc.nd rfl (Or.inl rfl))) (wss_cons (ws_if (w_cmpT (op_eqA hr.units) bl_eqA (w_var (pv 1)) w_int (nomark _)) (wss_one (ws_ret (w_var (pv 0)))) wss_nil) (wss_one (ws_par (i := 0) (j := 1) rfl Sc.nd rfl rfl (by decide) rfl rfl (w_cons (w_var (pv 1)) (w_cons (w_mod (w_callT call_int1 cl_int (by rfl) T.m_int bo_int (w_cons (w_var (pv 0)) w_nil)) (w_var (pv 1))) w_nil)) (by rfl))))) (wss_one (ws_ret (w_var (pv 0)))))
abbrev s_law_is_fraction : Stmt := top 21
theorem sc_law_is_fraction : FnScope ["thing"] ["thing"] (defScope s_law_is_fraction) := ⟨rfl, rfl, rfl, by decide +kernel, rfl, by decide +kernel, by decide +kernel⟩
theorem d_law_is_fraction (T : Txt K mg Cs) (C__law_common : Cal P w K mg base "_law_common" 1 (Φ_law_common Cs)) (C__law_is_int : Cal P w K mg base "_law_is_int" 1 (Φ_law_is_int Cs)) {f : Addr} (cdv : Value) (A : Around) (fr : List Env) (s : Shared) (H : Hp) (E : XK)
    (hgd : (A.deeper (envOfC "_law_is_fraction" (defScope s_law_is_fraction) s.heap.objs.size f cdv)).guards = some []) (hr : Room 1 (A.deeper (envOfC "_law_is_fraction" (defScope s_law_is_fraction) s.heap.objs.size f cdv))) :
    PSs (cxOf CX0 P w K mg base ["thing"] "_law_is_fraction" (defScope s_law_is_fraction) f cdv A fr s H E).nox (defBody s_law_is_fraction) (tWS K (u_law_is_fraction Cs)) :=
  have Sc := sc_law_is_fraction
  (wss_cons (ws_if (PW.pt (w_orT (w_notT (w_tru (w_callB call_isA (cl_isi T.kin) (by rfl) T.m_isinstance bo_isinstance (w_cons (w_var (pv 0)) (w_cons (w_ty (by rfl) T.m_tuple bo_tuple) w_nil))))) (w_orT (w_cmpT (op_neA hr.units) bl_neA (w_callB call_len cl_len (by rfl) T.m_len bo_len (w_cons (w_var (pv 0)) w_nil)) w_int (nomark _)) (w_orT (w_notT (w_tru (w_callC C__law_is_int hgd (hr.mono (by decide)) (w_cons (w_ix (w_var (pv 0)) w_int) w_nil)))) (w_or1 (w_notT (w_tru (w_callC C__law_is_int hgd (hr.mono (by decide)) (w_cons (w_ix (w_var (pv 0)) w_int) w_nil))))))))) (wss_one (ws_ret w_bl)) wss_nil) (wss_one (ws_ret (w_andV (w_cmp op_ge bl_ge (w_ix (w_var (pv 0)) w_int) w_int (nomark _)) (w_oneV (w_cmp (op_eqA hr.units) bl_eqA (w_callC C__law_common hgd (hr.mono (by decide)) (w_cons (w_callB call_abs cl_abs (by rfl) T.m_abs bo_abs (w_cons (w_ix (w_var (pv 0)) w_int) w_nil)) (w_cons (w_ix (w_var (pv 0)) w_int) w_nil))) w_int (nomark _)))))))
abbrev s_law_is_deed : Stmt := top 22
theorem sc_law_is_deed : FnScope ["thing"] ["thing"] (defScope s_law_is_deed) := ⟨rfl, rfl, rfl, by decide +kernel, rfl, by decide +kernel, by decide +kernel⟩
theorem d_law_is_deed (T : Txt K mg Cs) (C__law_is_name : Cal P w K mg base "_law_is_name" 1 (Φ_law_is_name Cs)) {f : Addr} (cdv : Value) (A : Around) (fr : List Env) (s : Shared) (H : Hp) (E : XK)
    (hgd : (A.deeper (envOfC "_law_is_deed" (defScope s_law_is_deed) s.heap.objs.size f cdv)).guards = some []) (hr : Room 1 (A.deeper (envOfC "_law_is_deed" (defScope s_law_is_deed) s.heap.objs.size f cdv))) :
    PSs (cxOf CX0 P w K mg base ["thing"] "_law_is_deed" (defScope s_law_is_deed) f cdv A fr s H E).nox (defBody s_law_is_deed) (tWS K (u_law_is_deed Cs)) :=
  have Sc := sc_law_is_deed
  (wss_one (ws_ret (w_andV (w_callB call_isA (cl_isi T.kin) (by rfl) T.m_isinstance bo_isinstance (w_cons (w_var (pv 0)) (w_cons (w_ty (by rfl) T.m_tuple bo_tuple) w_nil))) (w_andV (w_cmp (op_eqA hr.units) bl_eqA (w_callB call_len cl_len (by rfl) T.m_len bo_len (w_cons (w_var (pv 0)) w_nil)) w_int (nomark _)) (w_andV (w_callC C__law_is_name hgd (hr.mono (by decide)) (w_cons (w_ix (w_var (pv 0)) w_int) w_nil)) (w_oneV (w_callC C__law_is_name hgd (hr.mono (by decide)) (w_cons (w_ix (w_var (pv 0)) w_int) w_nil))))))))
abbrev s_law_word : Stmt := top 23
theorem sc_law_word : FnScope ["bag", "letters", "found", "turn", "place", "sign"] ["bag"] (defScope s_law_word) := ⟨rfl, rfl, rfl, by decide +kernel, rfl, by decide +kernel, by decide +kernel⟩
theorem d_law_word (T : Txt K mg Cs) (C__law_some : Cal P w K mg base "_law_some" 2 (Φ_law_some Cs)) (C__law_take : Cal P w K mg base "_law_take" 1 (Φ_law_take Cs)) {f : Addr} (cdv : Value) (A : Around) (fr : List Env) (s : Shared) (H : Hp) (E : XK)
    (hgd : (A.deeper (envOfC "_law_word" (defScope s_law_word) s.heap.objs.size f cdv)).guards = some []) (hr : Room 2 (A.deeper (envOfC "_law_word" (defScope s_law_word) s.heap.objs.size f cdv))) :
    PSs (cxOf CX0 P w K mg base ["bag", "letters", "found", "turn", "place", "sign"] "_law_word" (defScope s_law_word) f cdv A fr s H E).nox (defBody s_law_word) (tWS K (u_law_word Cs)) :=
  have Sc := sc_law_word
  (wss_cons (ws_asg (w_tup (w_cons w_str (w_cons w_str w_nil))) (wg_tup rfl (wg_cons (wg_name (pg_name (i := 1) Sc.nd rfl (Or.inl rfl))) (wg_cons (wg_name (pg_name (i := 2) Sc.nd rfl (Or.inl rfl))) wg_nil)))) (wss_cons (ws_for PassesOwn.never rfl (wi_R1 (by rfl) T.m_range (w_callC C__law_some hgd (hr.mono (by decide)) (w_cons (w_var (pv 0)) (w_cons (w_new (w_lst (w_cons w_int (w_cons w_int (w_cons w_int (w_cons w_int (w_cons w_int (w_cons w_int (w_cons w_int w_nil))))))))) w_nil)))) (wg_name (pg_name (i := 3) Sc.nd rfl (Or.inl rfl))) (wss_one (ws_set (i := 2) Sc.nd rfl (Or.inl rfl) (w_add (w_var (pv 2)) (w_callC C__law_some hgd (hr.mono (by decide)) (w_cons (w_var (pv 0)) (w_cons (w_var (pv 1)) w_nil))))))) (wss_cons (ws_set (i := 4) Sc.nd rfl (Or.inl rfl) (w_callC C__law_take hgd (hr.mono (by decide)) (w_cons (w_var (pv 0)) (w_cons (w_add (w_callB call_len cl_len (by rfl) T.m_len bo_len (w_cons (w_var (pv 2)) w_nil)) w_int) w_nil)))) (wss_cons (ws_set (i := 5) Sc.nd rfl (Or.inl rfl) (w_callC C__law_some hgd (hr.mono (by decide)) (w_cons (w_var (pv 0)) (w_cons (w_new (w_lst (w_cons w_str (w_cons w_str (w_cons w_str (w_cons w_str (w_cons w_str (w_cons w_str (w_cons w_str (w_cons w_str (w_cons w_str (w_cons w_str (w_cons w_str w_nil))))))))))))) w_nil)))) (wss_one (ws_ret (w_add (w_add (w_slS (w_var (pv 2)) w_noP (w_part (w_var (pv 4)))) (w_var (pv 5))) (w_slS (w_var (pv 2)) (w_part (w_var (pv 4))) w_noP))))))))
abbrev s_law_any : Stmt := top 24
theorem sc_law_any : FnScope ["bag", "deep", "menu", "turn"] ["bag", "deep"] (defScope s_law_any) := ⟨rfl, rfl, rfl, by decide +kernel, rfl, by decide +kernel, by decide +kernel⟩
theorem d_law_any (n k : Nat) (hk : 3 ≤ k) (T : Txt K mg Cs) (C__law_any : Cal P w K mg base "_law_any" k (Φ_law_any n Cs)) (C__law_some : Cal P w K mg base "_law_some" 2 (Φ_law_some Cs)) (C__law_take : Cal P w K mg base "_law_take" 1 (Φ_law_take Cs)) (C__law_word : Cal P w K mg base "_law_word" 3 (Φ_law_word Cs)) (E_NoText : Exq P w K mg base "NoText" (Cs.getD 1 0) ["line", "column"]) {f : Addr} (cdv : Value) (A : Around) (fr : List Env) (s : Shared) (H : Hp) (E : XK)
    (hgd : (A.deeper (envOfC "_law_any" (defScope s_law_any) s.heap.objs.size f cdv)).guards = some []) (hr : Room k (A.deeper (envOfC "_law_any" (defScope s_law_any) s.heap.objs.size f cdv))) :
    PSs (cxOf CX0 P w K mg base ["bag", "deep", "menu", "turn"] "_law_any" (defScope s_law_any) f cdv A fr s H E).nox (defBody s_law_any) (tWS K (u_law_any n Cs)) :=
  have Sc := sc_law_any
  (wss_cons (ws_set (i := 2) Sc.nd rfl (Or.inl rfl) (w_new (w_lst (w_cons w_non (w_cons w_bl (w_cons w_bl (w_cons w_int (w_cons w_int (w_cons (w_neg w_int) (w_cons (w_pow w_int w_int) (w_cons w_str (w_cons w_str (w_cons w_str (w_cons (w_tup w_nil) (w_cons (w_new (w_lst w_nil)) (w_cons w_newD (w_cons (w_tup (w_cons w_str (w_cons w_str w_nil))) (w_cons (w_new (w_lst (w_cons w_str (w_cons w_str w_nil)))) (w_cons (w_tup (w_cons w_int (w_cons w_int w_nil))) (w_cons (w_tup (w_cons w_int (w_cons w_int w_nil))) w_nil)))))))))))))))))))) (wss_cons (ws_do (w_extF (w_var (pv 2)) (w_lst (w_cons (w_tup (w_cons w_int (w_cons w_int w_nil))) (w_cons (w_tup (w_cons w_int (w_cons w_int w_nil))) (w_cons (w_tup (w_cons w_bl (w_cons w_int w_nil))) (w_cons (w_tup (w_cons w_int (w_cons w_bl w_nil))) (w_cons (w_tup (w_cons (w_neg w_int) (w_cons w_int w_nil))) (w_cons (w_tup (w_cons w_int (w_cons (w_neg w_int) w_nil))) (w_cons (w_tup (w_cons w_int (w_cons w_int w_nil))) (w_cons (w_tup (w_cons w_str w_nil)) (w_cons (w_tup (w_cons w_str (w_cons w_str (w_cons w_str w_nil)))) (w_cons (w_tup (w_cons w_str (w_cons w_int w_nil))) w_nil))))))))))) (fun x y => pe_bm PySem.F.plainAttrs_list PySem.F.slot_list_extend PySem.F.type_list_extend mt_extend x y))) (wss_cons (ws_do (w_extF (w_var (pv 2)) (w_lst (w_cons (w_new (w_lst (w_cons w_int (w_cons w_int w_nil)))) (w_cons (w_new (w_lst (w_cons w_int (w_cons w_int w_nil)))) (w_cons (w_excC E_NoText hgd (hr.mono (by omega)) (by rfl) (w_cons w_int (w_cons w_int w_nil))) w_nil)))) (fun x y => pe_bm PySem.F.plainAttrs_list PySem.F.slot_list_extend PySem.F.type_list_extend mt_extend x y))) (wss_cons (ws_if (PW.pt (w_andT (w_cmpT op_gt bl_gt (w_var (pv 1)) w_int (nomark _)) (w_and1 (w_cmpT (op_eqA hr.units) bl_eqA (w_callC C__law_take hgd (hr.mono (by omega)) (w_cons (w_var (pv 0)) (w_cons w_int w_nil))) w_int (nomark _))))) (wss_one (ws_ret (w_onT call_tuple_of ll_tup (by rfl) T.m_tuple bo_tuple (w_FL (w_lc (own := [("turn", 3)]) rfl Sc.nd (wi_R1 (by rfl) T.m_range (w_callC C__law_take hgd (hr.mono (by omega)) (w_cons (w_var (pv 0)) (w_cons w_int w_nil)))) (blkOk_by (N := ["bag", "deep", "menu", "turn"]) (sc := defScope s_law_any) (by decide +kernel)) (tg_name (by decide)) (fun _ _ _ _ _ => pg_name (i := 3) Sc.nd rfl (Or.inl rfl)) (fun _ _ _ _ _ => wt_nil) (fun _ _ _ _ _ => (w_callC C__law_any hgd (hr.mono (by omega)) (w_cons (w_var (pv 0)) (w_cons (w_sub (w_var (pv 1)) w_int) w_nil))))))))) wss_nil) (wss_one (ws_ret (w_callC C__law_some hgd (hr.mono (by omega)) (w_cons (w_var (pv 0)) (w_cons (w_new (w_catV (w_var (pv 2)) (w_lst (w_cons (w_callC C__law_word hgd (hr.mono (by omega)) (w_cons (w_var (pv 0)) w_nil)) (w_cons (w_callC C__law_word hgd (hr.mono (by omega)) (w_cons (w_var (pv 0)) w_nil)) (w_cons (w_tup (w_cons (w_callC C__law_word hgd (hr.mono (by omega)) (w_cons (w_var (pv 0)) w_nil)) (w_cons (w_callC C__law_word hgd (hr.mono (by omega)) (w_cons (w_var (pv 0)) w_nil)) w_nil))) w_nil)))))) w_nil)))))))))
abbrev s_law_number : Stmt := top 25
theorem sc_law_number : FnScope ["bag", "many"] ["bag"] (defScope s_law_number) := ⟨rfl, rfl, rfl, by decide +kernel, rfl, by decide +kernel, by decide +kernel⟩
theorem d_law_number (T : Txt K mg Cs) (C__law_some : Cal P w K mg base "_law_some" 2 (Φ_law_some Cs)) (C__law_take : Cal P w K mg base "_law_take" 1 (Φ_law_take Cs)) {f : Addr} (cdv : Value) (A : Around) (fr : List Env) (s : Shared) (H : Hp) (E : XK)
    (hgd : (A.deeper (envOfC "_law_number" (defScope s_law_number) s.heap.objs.size f cdv)).guards = some []) (hr : Room 2 (A.deeper (envOfC "_law_number" (defScope s_law_number) s.heap.objs.size f cdv))) :
    PSs (cxOf CX0 P w K mg base ["bag", "many"] "_law_number" (defScope s_law_number) f cdv A fr s H E).nox (defBody s_law_number) (tWS K (u_law_number Cs)) :=
  have Sc := sc_law_number
  (wss_cons (ws_set (i := 1) Sc.nd rfl (Or.inl rfl) (w_callC C__law_some hgd (hr.mono (by decide)) (w_cons (w_var (pv 0)) (w_cons (w_new (w_lst (w_cons (w_callC C__law_take hgd (hr.mono (by decide)) (w_cons (w_var (pv 0)) (w_cons w_int w_nil))) (w_cons (w_mul w_int (w_add w_int (w_callC C__law_take hgd (hr.mono (by decide)) (w_cons (w_var (pv 0)) (w_cons w_int w_nil))))) (w_cons (w_add (w_pow w_int w_int) (w_callC C__law_take hgd (hr.mono (by decide)) (w_cons (w_var (pv 0)) (w_cons (w_pow w_int w_int) w_nil)))) (w_cons w_int (w_cons w_int w_nil))))))) w_nil)))) (wss_one (ws_ret (w_ifE (w_cmpT (op_eqA hr.units) bl_eqA (w_callC C__law_take hgd (hr.mono (by decide)) (w_cons (w_var (pv 0)) (w_cons w_int w_nil))) w_int (nomark _)) (w_var (pv 1)) (w_sub w_int (w_var (pv 1)))))))
abbrev slaw : Stmt := top 26
theorem sclaw : FnScope ["script", "bag", "turn", "thing", "told", "due", "rows", "is_due", "one", "num", "den", "common"] ["script"] (defScope slaw) := ⟨rfl, rfl, rfl, by decide +kernel, rfl, by decide +kernel, by decide +kernel⟩
theorem dlaw (T : Txt K mg Cs) (C__law_alike : Cal P w K mg base "_law_alike" 1 (Φ_law_alike Cs)) (C__law_any : Cal P w K mg base "_law_any" 7 (Φ_law_any 3 Cs)) (C__law_bag : Cal P w K mg base "_law_bag" 1 (Φ_law_bag Cs)) (C__law_common : Cal P w K mg base "_law_common" 1 (Φ_law_common Cs)) (C__law_is_deed : Cal P w K mg base "_law_is_deed" 2 (Φ_law_is_deed Cs)) (C__law_is_fraction : Cal P w K mg base "_law_is_fraction" 2 (Φ_law_is_fraction Cs)) (C__law_is_int : Cal P w K mg base "_law_is_int" 1 (Φ_law_is_int Cs)) (C__law_is_name : Cal P w K mg base "_law_is_name" 1 (Φ_law_is_name Cs)) (C__law_number : Cal P w K mg base "_law_number" 3 (Φ_law_number Cs)) (C__law_some : Cal P w K mg base "_law_some" 2 (Φ_law_some Cs)) (C__law_word : Cal P w K mg base "_law_word" 3 (Φ_law_word Cs)) (C_are_deeds : Cal P w K mg base "are_deeds" 3 (Φare_deeds Cs)) (C_is_deed : Cal P w K mg base "is_deed" 2 (Φis_deed Cs)) (C_is_fraction : Cal P w K mg base "is_fraction" 2 (Φis_fraction Cs)) (C_is_integer : Cal P w K mg base "is_integer" 1 (Φis_integer Cs)) (C_is_name : Cal P w K mg base "is_name" 1 (Φis_name Cs)) (C_reduced : Cal P w K mg base "reduced" 1 (Φreduced Cs)) {f : Addr} (cdv : Value) (A : Around) (fr : List Env) (s : Shared) (H : Hp) (E : XK)
    (hgd : (A.deeper (envOfC "law" (defScope slaw) s.heap.objs.size f cdv)).guards = some []) (hr : Room 7 (A.deeper (envOfC "law" (defScope slaw) s.heap.objs.size f cdv))) :
    PSs (cxOf CX0 P w K mg base ["script", "bag", "turn", "thing", "told", "due", "rows", "is_due", "one", "num", "den", "common"] "law" (defScope slaw) f cdv A fr s H E).nox (defBody slaw) (tWS K (ulaw Cs)) :=
  have Sc := sclaw
  (wss_cons (ws_set (i := 1) Sc.nd rfl (Or.inl rfl) (w_callC C__law_bag hgd (hr.mono (by decide)) (w_cons (w_var (pv 0)) w_nil))) (wss_cons (ws_for PassesOwn.never rfl (wi_R1 (by rfl) T.m_range w_int) (wg_name (pg_name (i := 2) Sc.nd rfl (Or.inl rfl))) (wss_cons (ws_set (i := 3) Sc.nd rfl (Or.inl rfl) (w_callC C__law_some hgd (hr.mono (by decide)) (w_cons (w_var (pv 1)) (w_cons (w_new (w_lst (w_cons (w_callC C__law_any hgd (hr.mono (by decide)) (w_cons (w_var (pv 1)) (w_cons w_int w_nil))) (w_cons (w_callC C__law_word hgd (hr.mono (by decide)) (w_cons (w_var (pv 1)) w_nil)) (w_cons (w_tup (w_cons (w_callC C__law_number hgd (hr.mono (by decide)) (w_cons (w_var (pv 1)) w_nil)) (w_cons (w_callC C__law_number hgd (hr.mono (by decide)) (w_cons (w_var (pv 1)) w_nil)) w_nil))) w_nil))))) w_nil)))) (wss_cons (ws_set (i := 4) Sc.nd rfl (Or.inl rfl) (w_new (w_lst (w_cons (w_callC C_is_integer hgd (hr.mono (by decide)) (w_cons (w_var (pv 3)) w_nil)) (w_cons (w_callC C_is_name hgd (hr.mono (by decide)) (w_cons (w_var (pv 3)) w_nil)) (w_cons (w_callC C_is_fraction hgd (hr.mono (by decide)) (w_cons (w_var (pv 3)) w_nil)) (w_cons (w_callC C_is_deed hgd (hr.mono (by decide)) (w_cons (w_var (pv 3)) w_nil)) w_nil))))))) (wss_cons (ws_set (i := 5) Sc.nd rfl (Or.inl rfl) (w_new (w_lst (w_cons (w_callC C__law_is_int hgd (hr.mono (by decide)) (w_cons (w_var (pv 3)) w_nil)) (w_cons (w_callC C__law_is_name hgd (hr.mono (by decide)) (w_cons (w_var (pv 3)) w_nil)) (w_cons (w_callC C__law_is_fraction hgd (hr.mono (by decide)) (w_cons (w_var (pv 3)) w_nil)) (w_cons (w_callC C__law_is_deed hgd (hr.mono (by decide)) (w_cons (w_var (pv 3)) w_nil)) w_nil))))))) (wss_cons (ws_set (i := 6) Sc.nd rfl (Or.inl rfl) (w_callC C__law_some hgd (hr.mono (by decide)) (w_cons (w_var (pv 1)) (w_cons (w_new (w_lst (w_cons (w_var (pv 3)) (w_cons (w_tup (w_cons (w_var (pv 3)) w_nil)) (w_cons (w_tup (w_cons (w_tup (w_cons w_str (w_cons w_str w_nil))) (w_cons (w_var (pv 3)) w_nil))) (w_cons (w_new (w_lst (w_cons (w_var (pv 3)) w_nil))) (w_cons (w_tup (w_cons (w_var (pv 3)) (w_cons (w_tup (w_cons w_str (w_cons w_str w_nil))) w_nil))) w_nil))))))) w_nil)))) (wss_cons (ws_set (i := 7) Sc.nd rfl (Or.inl rfl) (w_andV (w_callB call_isA (cl_isi T.kin) (by rfl) T.m_isinstance bo_isinstance (w_cons (w_var (pv 6)) (w_cons (w_ty (by rfl) T.m_tuple bo_tuple) w_nil))) (w_oneV (w_empF hr.units0 (w_lc (own := [("one", 8)]) rfl Sc.nd (wi_V (w_var (pv 6))) (blkOk_by (N := ["script", "bag", "turn", "thing", "told", "due", "rows", "is_due", "one", "num", "den", "common"]) (sc := defScope slaw) (by decide +kernel)) (tg_name (by decide)) (fun _ _ _ _ _ => pg_name (i := 8) Sc.nd rfl (Or.inl rfl)) (fun _ _ _ _ _ => wt_one (w_notT (w_tru (w_callC C__law_is_deed hgd (hr.mono (by decide)) (w_cons (w_var (pv 8)) w_nil))))) (fun _ _ _ _ _ => (w_var (pv 8)))))))) (wss_cons (ws_if (w_notT (w_tru (w_callC C__law_alike hgd (hr.mono (by decide)) (w_cons (w_new (w_catV (w_var (pv 4)) (w_lst (w_cons (w_callC C_are_deeds hgd (hr.mono (by decide)) (w_cons (w_var (pv 6)) w_nil)) w_nil)))) (w_cons (w_new (w_catV (w_var (pv 5)) (w_lst (w_cons (w_var (pv 7)) w_nil)))) w_nil))))) (wss_one (ws_ret w_bl)) wss_nil) (wss_cons (ws_par (i := 9) (j := 10) rfl Sc.nd rfl rfl (by decide) rfl rfl (w_cons (w_callC C__law_number hgd (hr.mono (by decide)) (w_cons (w_var (pv 1)) w_nil)) (w_cons (w_callC C__law_number hgd (hr.mono (by decide)) (w_cons (w_var (pv 1)) w_nil)) w_nil)) (by rfl)) (wss_cons (ws_set (i := 10) Sc.nd rfl (Or.inl rfl) (w_ifE (w_cmpT (op_neA hr.units) bl_neA (w_var (pv 10)) w_int (nomark _)) (w_var (pv 10)) (w_neg w_int))) (wss_cons (ws_set (i := 11) Sc.nd rfl (Or.inl rfl) (w_mul (w_callC C__law_common hgd (hr.mono (by decide)) (w_cons (w_callB call_abs cl_abs (by rfl) T.m_abs bo_abs (w_cons (w_var (pv 9)) w_nil)) (w_cons (w_callB call_abs cl_abs (by rfl) T.m_abs bo_abs (w_cons (w_var (pv 10)) w_nil)) w_nil))) (w_ifE (w_cmpT op_gt bl_gt (w_var (pv 10)) w_int (nomark _)) w_int (w_neg w_int)))) (wss_one (ws_if (w_notT (w_tru (w_callC C__law_alike hgd (hr.mono (by decide)) (w_cons (w_callC C_reduced hgd (hr.mono (by decide)) (w_cons (w_var (pv 9)) (w_cons (w_var (pv 10)) w_nil))) (w_cons (w_tup (w_cons (w_divX (w_callT call_int1 cl_int (by rfl) T.m_int bo_int (w_cons (w_var (pv 9)) w_nil)) (w_var (pv 11))) (w_cons (w_divX (w_callT call_int1 cl_int (by rfl) T.m_int bo_int (w_cons (w_var (pv 10)) w_nil)) (w_var (pv 11))) w_nil))) w_nil))))) (wss_one (ws_ret w_bl)) wss_nil)))))))))))) (wss_one (ws_ret w_bl))))
end
end K01

set_option Elab.async false
set_option linter.all false
set_option maxRecDepth 100000
set_option exponentiation.threshold 1000
set_option maxHeartbeats 4000000
namespace K01
open PySem L2 Y PySem.Spec PyProof.Rows
abbrev siNoText : Stmt := inClass (top 12) 0
theorem sciNoText : FnScope ["self", "line", "column"] ["self", "line", "column"] (defScope siNoText) := ⟨rfl, rfl, rfl, by decide +kernel, rfl, by decide +kernel, by decide +kernel⟩
section
variable {P : Program} {w : World} {K : PySem.W.Frag} {mg : Str → Option Value} {base : Heap} {h : Heap} {fa : Addr}
theorem all_mk {C_NoText I_NoText : Addr} {A_is_integer : Addr} {A_is_name : Addr} {A__is_tuple_of : Addr} {A_is_fraction : Addr} {A_reduced : Addr} {A_is_deed : Addr} {A_are_deeds : Addr} {A__law_bag : Addr} {A__law_take : Addr} {A__law_some : Addr} {A__law_alike : Addr} {A__law_is_int : Addr} {A__law_is_name : Addr} {A__law_common : Addr} {A__law_is_fraction : Addr} {A__law_is_deed : Addr} {A__law_word : Addr} {A__law_any : Addr} {A__law_number : Addr} {A_law : Addr} {T_MOST_LETTERS : Tok} (X : K.In h) (G : h.Ns mainGlobals mg) (hfa : mg "law" = some (.ref fa))
    (aC_NoText : PySem.W.nsIn K mainGlobals "NoText" = some (some (.ref C_NoText)))
    (oC_NoText : OexC K C_NoText)
    (iC_NoText : PySem.W.findIn K (.ref C_NoText) "__init__" = some (some (.ref I_NoText)))
    (tC_NoText : PySem.W.typeIn K (.ref I_NoText) = some (.type "function"))
    (dC_NoText : DefIn K "__init__" "NoText.__init__" siNoText I_NoText)
    (nC_NoText_line : PySem.W.findIn K (.ref C_NoText) "line" = some none)
    (nC_NoText_column : PySem.W.findIn K (.ref C_NoText) "column" = some none)
    (eC_NoText : ExcC K C_NoText)
    (kint_NoText : PySem.W.subIn K (.ref C_NoText) (.type "int") = some false)
    (kbool_NoText : PySem.W.subIn K (.ref C_NoText) (.type "bool") = some false)
    (kstr_NoText : PySem.W.subIn K (.ref C_NoText) (.type "str") = some false)
    (ktuple_NoText : PySem.W.subIn K (.ref C_NoText) (.type "tuple") = some false)
    (klist_NoText : PySem.W.subIn K (.ref C_NoText) (.type "list") = some false)
    (kdict_NoText : PySem.W.subIn K (.ref C_NoText) (.type "dict") = some false)
    (a_is_integer : PySem.W.nsIn K mainGlobals "is_integer" = some (some (.ref A_is_integer)))
    (d_is_integer : DefIn K "is_integer" "is_integer" sis_integer A_is_integer)
    (a_is_name : PySem.W.nsIn K mainGlobals "is_name" = some (some (.ref A_is_name)))
    (d_is_name : DefIn K "is_name" "is_name" sis_name A_is_name)
    (a__is_tuple_of : PySem.W.nsIn K mainGlobals "_is_tuple_of" = some (some (.ref A__is_tuple_of)))
    (d__is_tuple_of : DefIn K "_is_tuple_of" "_is_tuple_of" s_is_tuple_of A__is_tuple_of)
    (a_is_fraction : PySem.W.nsIn K mainGlobals "is_fraction" = some (some (.ref A_is_fraction)))
    (d_is_fraction : DefIn K "is_fraction" "is_fraction" sis_fraction A_is_fraction)
    (a_reduced : PySem.W.nsIn K mainGlobals "reduced" = some (some (.ref A_reduced)))
    (d_reduced : DefIn K "reduced" "reduced" sreduced A_reduced)
    (a_is_deed : PySem.W.nsIn K mainGlobals "is_deed" = some (some (.ref A_is_deed)))
    (d_is_deed : DefIn K "is_deed" "is_deed" sis_deed A_is_deed)
    (a_are_deeds : PySem.W.nsIn K mainGlobals "are_deeds" = some (some (.ref A_are_deeds)))
    (d_are_deeds : DefIn K "are_deeds" "are_deeds" sare_deeds A_are_deeds)
    (a__law_bag : PySem.W.nsIn K mainGlobals "_law_bag" = some (some (.ref A__law_bag)))
    (d__law_bag : DefIn K "_law_bag" "_law_bag" s_law_bag A__law_bag)
    (a__law_take : PySem.W.nsIn K mainGlobals "_law_take" = some (some (.ref A__law_take)))
    (d__law_take : DefIn K "_law_take" "_law_take" s_law_take A__law_take)
    (a__law_some : PySem.W.nsIn K mainGlobals "_law_some" = some (some (.ref A__law_some)))
    (d__law_some : DefIn K "_law_some" "_law_some" s_law_some A__law_some)
    (a__law_alike : PySem.W.nsIn K mainGlobals "_law_alike" = some (some (.ref A__law_alike)))
    (d__law_alike : DefIn K "_law_alike" "_law_alike" s_law_alike A__law_alike)
    (a__law_is_int : PySem.W.nsIn K mainGlobals "_law_is_int" = some (some (.ref A__law_is_int)))
    (d__law_is_int : DefIn K "_law_is_int" "_law_is_int" s_law_is_int A__law_is_int)
    (a__law_is_name : PySem.W.nsIn K mainGlobals "_law_is_name" = some (some (.ref A__law_is_name)))
    (d__law_is_name : DefIn K "_law_is_name" "_law_is_name" s_law_is_name A__law_is_name)
    (a__law_common : PySem.W.nsIn K mainGlobals "_law_common" = some (some (.ref A__law_common)))
    (d__law_common : DefIn K "_law_common" "_law_common" s_law_common A__law_common)
    (a__law_is_fraction : PySem.W.nsIn K mainGlobals "_law_is_fraction" = some (some (.ref A__law_is_fraction)))
    (d__law_is_fraction : DefIn K "_law_is_fraction" "_law_is_fraction" s_law_is_fraction A__law_is_fraction)
    (a__law_is_deed : PySem.W.nsIn K mainGlobals "_law_is_deed" = some (some (.ref A__law_is_deed)))
    (d__law_is_deed : DefIn K "_law_is_deed" "_law_is_deed" s_law_is_deed A__law_is_deed)
    (a__law_word : PySem.W.nsIn K mainGlobals "_law_word" = some (some (.ref A__law_word)))
    (d__law_word : DefIn K "_law_word" "_law_word" s_law_word A__law_word)
    (a__law_any : PySem.W.nsIn K mainGlobals "_law_any" = some (some (.ref A__law_any)))
    (d__law_any : DefIn K "_law_any" "_law_any" s_law_any A__law_any)
    (a__law_number : PySem.W.nsIn K mainGlobals "_law_number" = some (some (.ref A__law_number)))
    (d__law_number : DefIn K "_law_number" "_law_number" s_law_number A__law_number)
    (a_law : PySem.W.nsIn K mainGlobals "law" = some (some (.ref A_law)))
    (d_law : DefIn K "law" "law" slaw A_law)
    (g_gcd : PySem.W.nsIn K mainGlobals "gcd" = some (some (.builtin "math.gcd")))
    (m_abs : PySem.W.nsIn K mainGlobals "abs" = some none)
    (m_all : PySem.W.nsIn K mainGlobals "all" = some none)
    (m_bool : PySem.W.nsIn K mainGlobals "bool" = some none)
    (m_int : PySem.W.nsIn K mainGlobals "int" = some none)
    (m_isinstance : PySem.W.nsIn K mainGlobals "isinstance" = some none)
    (m_len : PySem.W.nsIn K mainGlobals "len" = some none)
    (m_range : PySem.W.nsIn K mainGlobals "range" = some none)
    (m_repr : PySem.W.nsIn K mainGlobals "repr" = some none)
    (m_str : PySem.W.nsIn K mainGlobals "str" = some none)
    (m_tuple : PySem.W.nsIn K mainGlobals "tuple" = some none)
    (c_MOST_LETTERS : PySem.W.nsIn K mainGlobals "MOST_LETTERS" = some (some (.int 12 T_MOST_LETTERS))) :
    ∃ (Cs : List Addr) (fd : FuncData), L2.Binds K fd ["script"] [] ∧ ∀ base : Heap, K.In base → base.Ns mainGlobals mg → FnG P w K mg base 8 fa fd ["script"] (spU K (Φlaw Cs)) := by
  cases hfa.symm.trans (PySem.W.mg_of X G a_law)
  obtain ⟨fd_is_integer, F_is_integer⟩ := d_is_integer.ex
  have b_is_integer := F_is_integer.binds (ps := ["thing"]) fun _ _ _ _ _ _ us hl => match us, hl with | [_], _ => rfl
  have m_is_integer := PySem.W.mg_of X G a_is_integer
  obtain ⟨fd_is_name, F_is_name⟩ := d_is_name.ex
  have b_is_name := F_is_name.binds (ps := ["thing"]) fun _ _ _ _ _ _ us hl => match us, hl with | [_], _ => rfl
  have m_is_name := PySem.W.mg_of X G a_is_name
  obtain ⟨fd__is_tuple_of, F__is_tuple_of⟩ := d__is_tuple_of.ex
  have b__is_tuple_of := F__is_tuple_of.binds (ps := ["thing", "many"]) fun _ _ _ _ _ _ us hl => match us, hl with | [_, _], _ => rfl
  have m__is_tuple_of := PySem.W.mg_of X G a__is_tuple_of
  obtain ⟨fd_is_fraction, F_is_fraction⟩ := d_is_fraction.ex
  have b_is_fraction := F_is_fraction.binds (ps := ["thing"]) fun _ _ _ _ _ _ us hl => match us, hl with | [_], _ => rfl
  have m_is_fraction := PySem.W.mg_of X G a_is_fraction
  obtain ⟨fd_reduced, F_reduced⟩ := d_reduced.ex
  have b_reduced := F_reduced.binds (ps := ["num", "den"]) fun _ _ _ _ _ _ us hl => match us, hl with | [_, _], _ => rfl
  have m_reduced := PySem.W.mg_of X G a_reduced
  obtain ⟨fd_is_deed, F_is_deed⟩ := d_is_deed.ex
  have b_is_deed := F_is_deed.binds (ps := ["thing"]) fun _ _ _ _ _ _ us hl => match us, hl with | [_], _ => rfl
  have m_is_deed := PySem.W.mg_of X G a_is_deed
  obtain ⟨fd_are_deeds, F_are_deeds⟩ := d_are_deeds.ex
  have b_are_deeds := F_are_deeds.binds (ps := ["thing"]) fun _ _ _ _ _ _ us hl => match us, hl with | [_], _ => rfl
  have m_are_deeds := PySem.W.mg_of X G a_are_deeds
  obtain ⟨fd__law_bag, F__law_bag⟩ := d__law_bag.ex
  have b__law_bag := F__law_bag.binds (ps := ["script"]) fun _ _ _ _ _ _ us hl => match us, hl with | [_], _ => rfl
  have m__law_bag := PySem.W.mg_of X G a__law_bag
  obtain ⟨fd__law_take, F__law_take⟩ := d__law_take.ex
  have b__law_take := F__law_take.binds (ps := ["bag", "many"]) fun _ _ _ _ _ _ us hl => match us, hl with | [_, _], _ => rfl
  have m__law_take := PySem.W.mg_of X G a__law_take
  obtain ⟨fd__law_some, F__law_some⟩ := d__law_some.ex
  have b__law_some := F__law_some.binds (ps := ["bag", "things"]) fun _ _ _ _ _ _ us hl => match us, hl with | [_, _], _ => rfl
  have m__law_some := PySem.W.mg_of X G a__law_some
  obtain ⟨fd__law_alike, F__law_alike⟩ := d__law_alike.ex
  have b__law_alike := F__law_alike.binds (ps := ["found", "due"]) fun _ _ _ _ _ _ us hl => match us, hl with | [_, _], _ => rfl
  have m__law_alike := PySem.W.mg_of X G a__law_alike
  obtain ⟨fd__law_is_int, F__law_is_int⟩ := d__law_is_int.ex
  have b__law_is_int := F__law_is_int.binds (ps := ["thing"]) fun _ _ _ _ _ _ us hl => match us, hl with | [_], _ => rfl
  have m__law_is_int := PySem.W.mg_of X G a__law_is_int
  obtain ⟨fd__law_is_name, F__law_is_name⟩ := d__law_is_name.ex
  have b__law_is_name := F__law_is_name.binds (ps := ["thing"]) fun _ _ _ _ _ _ us hl => match us, hl with | [_], _ => rfl
  have m__law_is_name := PySem.W.mg_of X G a__law_is_name
  obtain ⟨fd__law_common, F__law_common⟩ := d__law_common.ex
  have b__law_common := F__law_common.binds (ps := ["one", "other"]) fun _ _ _ _ _ _ us hl => match us, hl with | [_, _], _ => rfl
  have m__law_common := PySem.W.mg_of X G a__law_common
  obtain ⟨fd__law_is_fraction, F__law_is_fraction⟩ := d__law_is_fraction.ex
  have b__law_is_fraction := F__law_is_fraction.binds (ps := ["thing"]) fun _ _ _ _ _ _ us hl => match us, hl with | [_], _ => rfl
  have m__law_is_fraction := PySem.W.mg_of X G a__law_is_fraction
  obtain ⟨fd__law_is_deed, F__law_is_deed⟩ := d__law_is_deed.ex
  have b__law_is_deed := F__law_is_deed.binds (ps := ["thing"]) fun _ _ _ _ _ _ us hl => match us, hl with | [_], _ => rfl
  have m__law_is_deed := PySem.W.mg_of X G a__law_is_deed
  obtain ⟨fd__law_word, F__law_word⟩ := d__law_word.ex
  have b__law_word := F__law_word.binds (ps := ["bag"]) fun _ _ _ _ _ _ us hl => match us, hl with | [_], _ => rfl
  have m__law_word := PySem.W.mg_of X G a__law_word
  obtain ⟨fd__law_any, F__law_any⟩ := d__law_any.ex
  have b__law_any := F__law_any.binds (ps := ["bag", "deep"]) fun _ _ _ _ _ _ us hl => match us, hl with | [_, _], _ => rfl
  have m__law_any := PySem.W.mg_of X G a__law_any
  obtain ⟨fd__law_number, F__law_number⟩ := d__law_number.ex
  have b__law_number := F__law_number.binds (ps := ["bag"]) fun _ _ _ _ _ _ us hl => match us, hl with | [_], _ => rfl
  have m__law_number := PySem.W.mg_of X G a__law_number
  obtain ⟨fd_law, F_law⟩ := d_law.ex
  have b_law := F_law.binds (ps := ["script"]) fun _ _ _ _ _ _ us hl => match us, hl with | [_], _ => rfl
  have m_law := PySem.W.mg_of X G a_law
  obtain ⟨fi_NoText, Fi_NoText⟩ := dC_NoText.ex
  have bi_NoText := Fi_NoText.binds (ps := ["self", "line", "column"]) fun _ _ _ _ _ _ us hl => match us, hl with | [_, _, _], _ => rfl
  have mC_NoText := PySem.W.mg_of X G aC_NoText
  have kin : Kin K (kinC [C_NoText, C_NoText]) := kin_mk fun C hC => by
    have key : C = C_NoText := by
      simp only [List.mem_cons, List.not_mem_nil, or_false] at hC
      first | exact hC | (rcases hC with e | e <;> simp [e]) | (rcases hC with e | e | e <;> simp [e]) | (simp_all)
    rcases key with rfl
    · refine ⟨eC_NoText, oex_cls oC_NoText, fun T hT => kit_of hT ?_⟩
      simp only [kinds, List.mem_cons, List.not_mem_nil, or_false] at hT
      rcases hT with rfl | rfl | rfl | rfl | rfl | rfl
      · exact kint_NoText
      · exact kbool_NoText
      · exact kstr_NoText
      · exact ktuple_NoText
      · exact klist_NoText
      · exact kdict_NoText
  have T : Txt K mg [C_NoText, C_NoText] := ⟨PySem.W.mg_of X G g_gcd, PySem.W.mg_none_of X G m_abs, PySem.W.mg_none_of X G m_all, PySem.W.mg_none_of X G m_bool, PySem.W.mg_none_of X G m_int, PySem.W.mg_none_of X G m_isinstance, PySem.W.mg_none_of X G m_len, PySem.W.mg_none_of X G m_range, PySem.W.mg_none_of X G m_repr, PySem.W.mg_none_of X G m_str, PySem.W.mg_none_of X G m_tuple, ⟨_, PySem.W.mg_of X G c_MOST_LETTERS⟩, kin⟩
  refine ⟨[C_NoText, C_NoText], fd_law, b_law, fun base hb hns => ?_⟩
  have Gi_NoText : FnG P w K mg base 1 I_NoText fi_NoText ["self", "line", "column"] (spInit K C_NoText ["line", "column"]) := init2 Fi_NoText sciNoText oC_NoText nC_NoText_line nC_NoText_column (fun cdv A fr s H E => have Sc := sciNoText; (pss_cons (ps_ost (pv 0) (pv 1) rfl) (pss_one (ps_ost (pv 0) (pv 2) rfl))))
  have E_NoText : Exq P w K mg base "NoText" (([C_NoText, C_NoText]).getD 1 0) ["line", "column"] := exq_mk oC_NoText mC_NoText iC_NoText tC_NoText bi_NoText Gi_NoText
  have O_is_integer : FnG P w K mg base 1 A_is_integer fd_is_integer ["thing"] (spU K (Φis_integer [C_NoText, C_NoText])) := fn_okC F_is_integer scis_integer (by first | (rintro _ _ _ ⟨_, rfl, _⟩; rfl) | (rintro _ _ _ ⟨_, _, rfl, _⟩; rfl) | (rintro _ _ _ ⟨_, _, _, rfl, _⟩; rfl) | (rintro _ _ _ ⟨_, _, _, _, rfl, _⟩; rfl) | (rintro _ _ _ ⟨_, _, _, _, _, rfl, _⟩; rfl) | (rintro _ _ _ ⟨_, _, _, _, _, _, rfl, _⟩; rfl) | (rintro _ _ _ ⟨_, _, _, _, _, _, _, rfl, _⟩; rfl)) (fun cdv A fr s H E hgd hr => dis_integer T   cdv A fr s H E hgd hr) (vis_integer )
  have C_is_integer : Cal P w K mg base "is_integer" 1 (Φis_integer [C_NoText, C_NoText]) := cal_mk m_is_integer F_is_integer b_is_integer O_is_integer
  have O_is_name : FnG P w K mg base 1 A_is_name fd_is_name ["thing"] (spU K (Φis_name [C_NoText, C_NoText])) := fn_okC F_is_name scis_name (by first | (rintro _ _ _ ⟨_, rfl, _⟩; rfl) | (rintro _ _ _ ⟨_, _, rfl, _⟩; rfl) | (rintro _ _ _ ⟨_, _, _, rfl, _⟩; rfl) | (rintro _ _ _ ⟨_, _, _, _, rfl, _⟩; rfl) | (rintro _ _ _ ⟨_, _, _, _, _, rfl, _⟩; rfl) | (rintro _ _ _ ⟨_, _, _, _, _, _, rfl, _⟩; rfl) | (rintro _ _ _ ⟨_, _, _, _, _, _, _, rfl, _⟩; rfl)) (fun cdv A fr s H E hgd hr => dis_name T   cdv A fr s H E hgd hr) (vis_name )
  have C_is_name : Cal P w K mg base "is_name" 1 (Φis_name [C_NoText, C_NoText]) := cal_mk m_is_name F_is_name b_is_name O_is_name
  have O__is_tuple_of : FnG P w K mg base 1 A__is_tuple_of fd__is_tuple_of ["thing", "many"] (spU K (Φ_is_tuple_of [C_NoText, C_NoText])) := fn_okC F__is_tuple_of sc_is_tuple_of (by first | (rintro _ _ _ ⟨_, rfl, _⟩; rfl) | (rintro _ _ _ ⟨_, _, rfl, _⟩; rfl) | (rintro _ _ _ ⟨_, _, _, rfl, _⟩; rfl) | (rintro _ _ _ ⟨_, _, _, _, rfl, _⟩; rfl) | (rintro _ _ _ ⟨_, _, _, _, _, rfl, _⟩; rfl) | (rintro _ _ _ ⟨_, _, _, _, _, _, rfl, _⟩; rfl) | (rintro _ _ _ ⟨_, _, _, _, _, _, _, rfl, _⟩; rfl)) (fun cdv A fr s H E hgd hr => d_is_tuple_of T   cdv A fr s H E hgd hr) (v_is_tuple_of )
  have C__is_tuple_of : Cal P w K mg base "_is_tuple_of" 1 (Φ_is_tuple_of [C_NoText, C_NoText]) := cal_mk m__is_tuple_of F__is_tuple_of b__is_tuple_of O__is_tuple_of
  have O_is_fraction : FnG P w K mg base 2 A_is_fraction fd_is_fraction ["thing"] (spU K (Φis_fraction [C_NoText, C_NoText])) := fn_okC F_is_fraction scis_fraction (by first | (rintro _ _ _ ⟨_, rfl, _⟩; rfl) | (rintro _ _ _ ⟨_, _, rfl, _⟩; rfl) | (rintro _ _ _ ⟨_, _, _, rfl, _⟩; rfl) | (rintro _ _ _ ⟨_, _, _, _, rfl, _⟩; rfl) | (rintro _ _ _ ⟨_, _, _, _, _, rfl, _⟩; rfl) | (rintro _ _ _ ⟨_, _, _, _, _, _, rfl, _⟩; rfl) | (rintro _ _ _ ⟨_, _, _, _, _, _, _, rfl, _⟩; rfl)) (fun cdv A fr s H E hgd hr => dis_fraction T C__is_tuple_of C_is_integer  cdv A fr s H E hgd hr) (vis_fraction )
  have C_is_fraction : Cal P w K mg base "is_fraction" 2 (Φis_fraction [C_NoText, C_NoText]) := cal_mk m_is_fraction F_is_fraction b_is_fraction O_is_fraction
  have O_reduced : FnG P w K mg base 1 A_reduced fd_reduced ["num", "den"] (spU K (Φreduced [C_NoText, C_NoText])) := fn_okC F_reduced screduced (by first | (rintro _ _ _ ⟨_, rfl, _⟩; rfl) | (rintro _ _ _ ⟨_, _, rfl, _⟩; rfl) | (rintro _ _ _ ⟨_, _, _, rfl, _⟩; rfl) | (rintro _ _ _ ⟨_, _, _, _, rfl, _⟩; rfl) | (rintro _ _ _ ⟨_, _, _, _, _, rfl, _⟩; rfl) | (rintro _ _ _ ⟨_, _, _, _, _, _, rfl, _⟩; rfl) | (rintro _ _ _ ⟨_, _, _, _, _, _, _, rfl, _⟩; rfl)) (fun cdv A fr s H E hgd hr => dreduced T   cdv A fr s H E hgd hr) (vreduced )
  have C_reduced : Cal P w K mg base "reduced" 1 (Φreduced [C_NoText, C_NoText]) := cal_mk m_reduced F_reduced b_reduced O_reduced
  have O_is_deed : FnG P w K mg base 2 A_is_deed fd_is_deed ["thing"] (spU K (Φis_deed [C_NoText, C_NoText])) := fn_okC F_is_deed scis_deed (by first | (rintro _ _ _ ⟨_, rfl, _⟩; rfl) | (rintro _ _ _ ⟨_, _, rfl, _⟩; rfl) | (rintro _ _ _ ⟨_, _, _, rfl, _⟩; rfl) | (rintro _ _ _ ⟨_, _, _, _, rfl, _⟩; rfl) | (rintro _ _ _ ⟨_, _, _, _, _, rfl, _⟩; rfl) | (rintro _ _ _ ⟨_, _, _, _, _, _, rfl, _⟩; rfl) | (rintro _ _ _ ⟨_, _, _, _, _, _, _, rfl, _⟩; rfl)) (fun cdv A fr s H E hgd hr => dis_deed T C__is_tuple_of C_is_name  cdv A fr s H E hgd hr) (vis_deed )
  have C_is_deed : Cal P w K mg base "is_deed" 2 (Φis_deed [C_NoText, C_NoText]) := cal_mk m_is_deed F_is_deed b_is_deed O_is_deed
  have O_are_deeds : FnG P w K mg base 3 A_are_deeds fd_are_deeds ["thing"] (spU K (Φare_deeds [C_NoText, C_NoText])) := fn_okC F_are_deeds scare_deeds (by first | (rintro _ _ _ ⟨_, rfl, _⟩; rfl) | (rintro _ _ _ ⟨_, _, rfl, _⟩; rfl) | (rintro _ _ _ ⟨_, _, _, rfl, _⟩; rfl) | (rintro _ _ _ ⟨_, _, _, _, rfl, _⟩; rfl) | (rintro _ _ _ ⟨_, _, _, _, _, rfl, _⟩; rfl) | (rintro _ _ _ ⟨_, _, _, _, _, _, rfl, _⟩; rfl) | (rintro _ _ _ ⟨_, _, _, _, _, _, _, rfl, _⟩; rfl)) (fun cdv A fr s H E hgd hr => dare_deeds T C_is_deed  cdv A fr s H E hgd hr) (vare_deeds )
  have C_are_deeds : Cal P w K mg base "are_deeds" 3 (Φare_deeds [C_NoText, C_NoText]) := cal_mk m_are_deeds F_are_deeds b_are_deeds O_are_deeds
  have O__law_bag : FnG P w K mg base 1 A__law_bag fd__law_bag ["script"] (spU K (Φ_law_bag [C_NoText, C_NoText])) := fn_okC F__law_bag sc_law_bag (by first | (rintro _ _ _ ⟨_, rfl, _⟩; rfl) | (rintro _ _ _ ⟨_, _, rfl, _⟩; rfl) | (rintro _ _ _ ⟨_, _, _, rfl, _⟩; rfl) | (rintro _ _ _ ⟨_, _, _, _, rfl, _⟩; rfl) | (rintro _ _ _ ⟨_, _, _, _, _, rfl, _⟩; rfl) | (rintro _ _ _ ⟨_, _, _, _, _, _, rfl, _⟩; rfl) | (rintro _ _ _ ⟨_, _, _, _, _, _, _, rfl, _⟩; rfl)) (fun cdv A fr s H E hgd hr => d_law_bag T   cdv A fr s H E hgd hr) (v_law_bag )
  have C__law_bag : Cal P w K mg base "_law_bag" 1 (Φ_law_bag [C_NoText, C_NoText]) := cal_mk m__law_bag F__law_bag b__law_bag O__law_bag
  have O__law_take : FnG P w K mg base 1 A__law_take fd__law_take ["bag", "many"] (spU K (Φ_law_take [C_NoText, C_NoText])) := fn_okC F__law_take sc_law_take (by first | (rintro _ _ _ ⟨_, rfl, _⟩; rfl) | (rintro _ _ _ ⟨_, _, rfl, _⟩; rfl) | (rintro _ _ _ ⟨_, _, _, rfl, _⟩; rfl) | (rintro _ _ _ ⟨_, _, _, _, rfl, _⟩; rfl) | (rintro _ _ _ ⟨_, _, _, _, _, rfl, _⟩; rfl) | (rintro _ _ _ ⟨_, _, _, _, _, _, rfl, _⟩; rfl) | (rintro _ _ _ ⟨_, _, _, _, _, _, _, rfl, _⟩; rfl)) (fun cdv A fr s H E hgd hr => d_law_take T   cdv A fr s H E hgd hr) (v_law_take )
  have C__law_take : Cal P w K mg base "_law_take" 1 (Φ_law_take [C_NoText, C_NoText]) := cal_mk m__law_take F__law_take b__law_take O__law_take
  have O__law_some : FnG P w K mg base 2 A__law_some fd__law_some ["bag", "things"] (spU K (Φ_law_some [C_NoText, C_NoText])) := fn_okC F__law_some sc_law_some (by first | (rintro _ _ _ ⟨_, rfl, _⟩; rfl) | (rintro _ _ _ ⟨_, _, rfl, _⟩; rfl) | (rintro _ _ _ ⟨_, _, _, rfl, _⟩; rfl) | (rintro _ _ _ ⟨_, _, _, _, rfl, _⟩; rfl) | (rintro _ _ _ ⟨_, _, _, _, _, rfl, _⟩; rfl) | (rintro _ _ _ ⟨_, _, _, _, _, _, rfl, _⟩; rfl) | (rintro _ _ _ ⟨_, _, _, _, _, _, _, rfl, _⟩; rfl)) (fun cdv A fr s H E hgd hr => d_law_some T C__law_take  cdv A fr s H E hgd hr) (v_law_some )
  have C__law_some : Cal P w K mg base "_law_some" 2 (Φ_law_some [C_NoText, C_NoText]) := cal_mk m__law_some F__law_some b__law_some O__law_some
  have O__law_alike : FnG P w K mg base 1 A__law_alike fd__law_alike ["found", "due"] (spU K (Φ_law_alike [C_NoText, C_NoText])) := fn_okC F__law_alike sc_law_alike (by first | (rintro _ _ _ ⟨_, rfl, _⟩; rfl) | (rintro _ _ _ ⟨_, _, rfl, _⟩; rfl) | (rintro _ _ _ ⟨_, _, _, rfl, _⟩; rfl) | (rintro _ _ _ ⟨_, _, _, _, rfl, _⟩; rfl) | (rintro _ _ _ ⟨_, _, _, _, _, rfl, _⟩; rfl) | (rintro _ _ _ ⟨_, _, _, _, _, _, rfl, _⟩; rfl) | (rintro _ _ _ ⟨_, _, _, _, _, _, _, rfl, _⟩; rfl)) (fun cdv A fr s H E hgd hr => d_law_alike T   cdv A fr s H E hgd hr) (v_law_alike )
  have C__law_alike : Cal P w K mg base "_law_alike" 1 (Φ_law_alike [C_NoText, C_NoText]) := cal_mk m__law_alike F__law_alike b__law_alike O__law_alike
  have O__law_is_int : FnG P w K mg base 1 A__law_is_int fd__law_is_int ["thing"] (spU K (Φ_law_is_int [C_NoText, C_NoText])) := fn_okC F__law_is_int sc_law_is_int (by first | (rintro _ _ _ ⟨_, rfl, _⟩; rfl) | (rintro _ _ _ ⟨_, _, rfl, _⟩; rfl) | (rintro _ _ _ ⟨_, _, _, rfl, _⟩; rfl) | (rintro _ _ _ ⟨_, _, _, _, rfl, _⟩; rfl) | (rintro _ _ _ ⟨_, _, _, _, _, rfl, _⟩; rfl) | (rintro _ _ _ ⟨_, _, _, _, _, _, rfl, _⟩; rfl) | (rintro _ _ _ ⟨_, _, _, _, _, _, _, rfl, _⟩; rfl)) (fun cdv A fr s H E hgd hr => d_law_is_int T   cdv A fr s H E hgd hr) (v_law_is_int )
  have C__law_is_int : Cal P w K mg base "_law_is_int" 1 (Φ_law_is_int [C_NoText, C_NoText]) := cal_mk m__law_is_int F__law_is_int b__law_is_int O__law_is_int
  have O__law_is_name : FnG P w K mg base 1 A__law_is_name fd__law_is_name ["thing"] (spU K (Φ_law_is_name [C_NoText, C_NoText])) := fn_okC F__law_is_name sc_law_is_name (by first | (rintro _ _ _ ⟨_, rfl, _⟩; rfl) | (rintro _ _ _ ⟨_, _, rfl, _⟩; rfl) | (rintro _ _ _ ⟨_, _, _, rfl, _⟩; rfl) | (rintro _ _ _ ⟨_, _, _, _, rfl, _⟩; rfl) | (rintro _ _ _ ⟨_, _, _, _, _, rfl, _⟩; rfl) | (rintro _ _ _ ⟨_, _, _, _, _, _, rfl, _⟩; rfl) | (rintro _ _ _ ⟨_, _, _, _, _, _, _, rfl, _⟩; rfl)) (fun cdv A fr s H E hgd hr => d_law_is_name T   cdv A fr s H E hgd hr) (v_law_is_name )
  have C__law_is_name : Cal P w K mg base "_law_is_name" 1 (Φ_law_is_name [C_NoText, C_NoText]) := cal_mk m__law_is_name F__law_is_name b__law_is_name O__law_is_name
  have O__law_common : FnG P w K mg base 1 A__law_common fd__law_common ["one", "other"] (spU K (Φ_law_common [C_NoText, C_NoText])) := fn_okC F__law_common sc_law_common (by first | (rintro _ _ _ ⟨_, rfl, _⟩; rfl) | (rintro _ _ _ ⟨_, _, rfl, _⟩; rfl) | (rintro _ _ _ ⟨_, _, _, rfl, _⟩; rfl) | (rintro _ _ _ ⟨_, _, _, _, rfl, _⟩; rfl) | (rintro _ _ _ ⟨_, _, _, _, _, rfl, _⟩; rfl) | (rintro _ _ _ ⟨_, _, _, _, _, _, rfl, _⟩; rfl) | (rintro _ _ _ ⟨_, _, _, _, _, _, _, rfl, _⟩; rfl)) (fun cdv A fr s H E hgd hr => d_law_common T   cdv A fr s H E hgd hr) (v_law_common )
  have C__law_common : Cal P w K mg base "_law_common" 1 (Φ_law_common [C_NoText, C_NoText]) := cal_mk m__law_common F__law_common b__law_common O__law_common
  have O__law_is_fraction : FnG P w K mg base 2 A__law_is_fraction fd__law_is_fraction ["thing"] (spU K (Φ_law_is_fraction [C_NoText, C_NoText])) := fn_okC F__law_is_fraction sc_law_is_fraction (by first | (rintro _ _ _ ⟨_, rfl, _⟩; rfl) | (rintro _ _ _ ⟨_, _, rfl, _⟩; rfl) | (rintro _ _ _ ⟨_, _, _, rfl, _⟩; rfl) | (rintro _ _ _ ⟨_, _, _, _, rfl, _⟩; rfl) | (rintro _ _ _ ⟨_, _, _, _, _, rfl, _⟩; rfl) | (rintro _ _ _ ⟨_, _, _, _, _, _, rfl, _⟩; rfl) | (rintro _ _ _ ⟨_, _, _, _, _, _, _, rfl, _⟩; rfl)) (fun cdv A fr s H E hgd hr => d_law_is_fraction T C__law_common C__law_is_int  cdv A fr s H E hgd hr) (v_law_is_fraction )
  have C__law_is_fraction : Cal P w K mg base "_law_is_fraction" 2 (Φ_law_is_fraction [C_NoText, C_NoText]) := cal_mk m__law_is_fraction F__law_is_fraction b__law_is_fraction O__law_is_fraction
  have O__law_is_deed : FnG P w K mg base 2 A__law_is_deed fd__law_is_deed ["thing"] (spU K (Φ_law_is_deed [C_NoText, C_NoText])) := fn_okC F__law_is_deed sc_law_is_deed (by first | (rintro _ _ _ ⟨_, rfl, _⟩; rfl) | (rintro _ _ _ ⟨_, _, rfl, _⟩; rfl) | (rintro _ _ _ ⟨_, _, _, rfl, _⟩; rfl) | (rintro _ _ _ ⟨_, _, _, _, rfl, _⟩; rfl) | (rintro _ _ _ ⟨_, _, _, _, _, rfl, _⟩; rfl) | (rintro _ _ _ ⟨_, _, _, _, _, _, rfl, _⟩; rfl) | (rintro _ _ _ ⟨_, _, _, _, _, _, _, rfl, _⟩; rfl)) (fun cdv A fr s H E hgd hr => d_law_is_deed T C__law_is_name  cdv A fr s H E hgd hr) (v_law_is_deed )
  have C__law_is_deed : Cal P w K mg base "_law_is_deed" 2 (Φ_law_is_deed [C_NoText, C_NoText]) := cal_mk m__law_is_deed F__law_is_deed b__law_is_deed O__law_is_deed
  have O__law_word : FnG P w K mg base 3 A__law_word fd__law_word ["bag"] (spU K (Φ_law_word [C_NoText, C_NoText])) := fn_okC F__law_word sc_law_word (by first | (rintro _ _ _ ⟨_, rfl, _⟩; rfl) | (rintro _ _ _ ⟨_, _, rfl, _⟩; rfl) | (rintro _ _ _ ⟨_, _, _, rfl, _⟩; rfl) | (rintro _ _ _ ⟨_, _, _, _, rfl, _⟩; rfl) | (rintro _ _ _ ⟨_, _, _, _, _, rfl, _⟩; rfl) | (rintro _ _ _ ⟨_, _, _, _, _, _, rfl, _⟩; rfl) | (rintro _ _ _ ⟨_, _, _, _, _, _, _, rfl, _⟩; rfl)) (fun cdv A fr s H E hgd hr => d_law_word T C__law_some C__law_take  cdv A fr s H E hgd hr) (v_law_word )
  have C__law_word : Cal P w K mg base "_law_word" 3 (Φ_law_word [C_NoText, C_NoText]) := cal_mk m__law_word F__law_word b__law_word O__law_word
  have all__law_any : ∀ n : Nat, FnG P w K mg base (4 + n) A__law_any fd__law_any ["bag", "deep"] (spU K (Φ_law_any n [C_NoText, C_NoText])) := by
    intro n
    induction n with
    | zero => exact fnG_none (none__law_any [C_NoText, C_NoText])
    | succ n ih =>
      have C__law_any : Cal P w K mg base "_law_any" (4 + n) (Φ_law_any n [C_NoText, C_NoText]) := cal_mk m__law_any F__law_any b__law_any ih
      exact fn_okC F__law_any sc_law_any (by first | (rintro _ _ _ ⟨_, rfl, _⟩; rfl) | (rintro _ _ _ ⟨_, _, rfl, _⟩; rfl) | (rintro _ _ _ ⟨_, _, _, rfl, _⟩; rfl) | (rintro _ _ _ ⟨_, _, _, _, rfl, _⟩; rfl) | (rintro _ _ _ ⟨_, _, _, _, _, rfl, _⟩; rfl) | (rintro _ _ _ ⟨_, _, _, _, _, _, rfl, _⟩; rfl) | (rintro _ _ _ ⟨_, _, _, _, _, _, _, rfl, _⟩; rfl)) (fun cdv A fr s H E hgd hr => d_law_any n (4 + n) (by omega) T C__law_any C__law_some C__law_take C__law_word E_NoText cdv A fr s H E hgd hr) (v_law_any (by simp) n)
  have C__law_any : Cal P w K mg base "_law_any" 7 (Φ_law_any 3 [C_NoText, C_NoText]) := cal_mk m__law_any F__law_any b__law_any (all__law_any 3)
  have O__law_number : FnG P w K mg base 3 A__law_number fd__law_number ["bag"] (spU K (Φ_law_number [C_NoText, C_NoText])) := fn_okC F__law_number sc_law_number (by first | (rintro _ _ _ ⟨_, rfl, _⟩; rfl) | (rintro _ _ _ ⟨_, _, rfl, _⟩; rfl) | (rintro _ _ _ ⟨_, _, _, rfl, _⟩; rfl) | (rintro _ _ _ ⟨_, _, _, _, rfl, _⟩; rfl) | (rintro _ _ _ ⟨_, _, _, _, _, rfl, _⟩; rfl) | (rintro _ _ _ ⟨_, _, _, _, _, _, rfl, _⟩; rfl) | (rintro _ _ _ ⟨_, _, _, _, _, _, _, rfl, _⟩; rfl)) (fun cdv A fr s H E hgd hr => d_law_number T C__law_some C__law_take  cdv A fr s H E hgd hr) (v_law_number )
  have C__law_number : Cal P w K mg base "_law_number" 3 (Φ_law_number [C_NoText, C_NoText]) := cal_mk m__law_number F__law_number b__law_number O__law_number
  have O_law : FnG P w K mg base 8 fa fd_law ["script"] (spU K (Φlaw [C_NoText, C_NoText])) := fn_okC F_law sclaw (by first | (rintro _ _ _ ⟨_, rfl, _⟩; rfl) | (rintro _ _ _ ⟨_, _, rfl, _⟩; rfl) | (rintro _ _ _ ⟨_, _, _, rfl, _⟩; rfl) | (rintro _ _ _ ⟨_, _, _, _, rfl, _⟩; rfl) | (rintro _ _ _ ⟨_, _, _, _, _, rfl, _⟩; rfl) | (rintro _ _ _ ⟨_, _, _, _, _, _, rfl, _⟩; rfl) | (rintro _ _ _ ⟨_, _, _, _, _, _, _, rfl, _⟩; rfl)) (fun cdv A fr s H E hgd hr => dlaw T C__law_alike C__law_any C__law_bag C__law_common C__law_is_deed C__law_is_fraction C__law_is_int C__law_is_name C__law_number C__law_some C__law_word C_are_deeds C_is_deed C_is_fraction C_is_integer C_is_name C_reduced  cdv A fr s H E hgd hr) (vlaw )
  exact O_law
end
theorem walk {l : PySem.W.OpenLaw} {q : Program} {loose : List Str} {XP : (Str → Option Value) → Heap → Prop} {YP : World → Heap → Prop} {d : DefRec} {K : Params → PySem.W.Frag} (hn : l.most = some 63) (hdf : d.params.defaults = [])
    (hY : ∀ (w : World) (h : Heap), YP w h → (K w.params).In h)
    (F : ∀ (w : World) (mg : Str → Option Value) (fa : Addr) (h : Heap), (K w.params).In h → h.Ns mainGlobals mg → mg d.name = some (.ref fa) →
      ∃ (Cs : List Addr) (fd : FuncData), L2.Binds (K w.params) fd ["script"] [] ∧ ∀ base : Heap, (K w.params).In base → base.Ns mainGlobals mg → FnG l.prog w (K w.params) mg base 8 fa fd ["script"] (spU (K w.params) (Φlaw Cs))) :
    PySem.W.WalkO q loose XP YP l.row.toRowW d [] (fun f vs => PySem.call f vs) := by
  refine walkG (Φ := fun _ => Φlaw []) (n := 63) (k := 8) (x := "script") hn (by decide) hdf ⟨rfl, by decide, by decide⟩ hY fun w mg fa h KX G hmg => ?_
  obtain ⟨Cs, fd, b, f⟩ := F w mg fa h KX G hmg
  exact ⟨Φlaw Cs, fd, b, f, start_law Cs⟩
end K01
open PySem PySem.W PyProof.Rows in
set_option maxRecDepth 100000 in
set_option maxHeartbeats 0 in
theorem PySem.Challenge.cw_partedmeet_k01_small_forms_of_any_value_holds : PySem.Challenge.rw_partedmeet_k01_small_forms_of_any_value.Holds := by
  w_on; o_law; k_head; (case hw => w_witness2)
  k_fill
  refine K01.walk (l := PySem.Challenge.rw_partedmeet_k01_small_forms_of_any_value) rfl rfl (fun w h Y => PySem.W.kIn_of Y) ?F
  case F =>
    intro w mg fa h KX G hmg
    refine' K01.all_mk KX G hmg ?aC_NoText (Y.oex_in ?xl_NoText ?xr_NoText ?xs_NoText ?xe_NoText ?xt_NoText ?xk_NoText) ?iC_NoText ?tC_NoText (Y.def_in ?il_NoText ?ic_NoText ?ik_NoText) ?nC_NoText_line ?nC_NoText_column ⟨?e0_NoText, ?e1_NoText, ?e2_NoText, ?e3_NoText, ?e4_NoText, ?e5_NoText, ?e6_NoText, ?e7_NoText⟩ ?kint_NoText ?kbool_NoText ?kstr_NoText ?ktuple_NoText ?klist_NoText ?kdict_NoText ?a_is_integer (Y.def_in ?l_is_integer ?c_is_integer ?k_is_integer) ?a_is_name (Y.def_in ?l_is_name ?c_is_name ?k_is_name) ?a__is_tuple_of (Y.def_in ?l__is_tuple_of ?c__is_tuple_of ?k__is_tuple_of) ?a_is_fraction (Y.def_in ?l_is_fraction ?c_is_fraction ?k_is_fraction) ?a_reduced (Y.def_in ?l_reduced ?c_reduced ?k_reduced) ?a_is_deed (Y.def_in ?l_is_deed ?c_is_deed ?k_is_deed) ?a_are_deeds (Y.def_in ?l_are_deeds ?c_are_deeds ?k_are_deeds) ?a__law_bag (Y.def_in ?l__law_bag ?c__law_bag ?k__law_bag) ?a__law_take (Y.def_in ?l__law_take ?c__law_take ?k__law_take) ?a__law_some (Y.def_in ?l__law_some ?c__law_some ?k__law_some) ?a__law_alike (Y.def_in ?l__law_alike ?c__law_alike ?k__law_alike) ?a__law_is_int (Y.def_in ?l__law_is_int ?c__law_is_int ?k__law_is_int) ?a__law_is_name (Y.def_in ?l__law_is_name ?c__law_is_name ?k__law_is_name) ?a__law_common (Y.def_in ?l__law_common ?c__law_common ?k__law_common) ?a__law_is_fraction (Y.def_in ?l__law_is_fraction ?c__law_is_fraction ?k__law_is_fraction) ?a__law_is_deed (Y.def_in ?l__law_is_deed ?c__law_is_deed ?k__law_is_deed) ?a__law_word (Y.def_in ?l__law_word ?c__law_word ?k__law_word) ?a__law_any (Y.def_in ?l__law_any ?c__law_any ?k__law_any) ?a__law_number (Y.def_in ?l__law_number ?c__law_number ?k__law_number) ?a_law (Y.def_in ?l_law ?c_law ?k_law) ?g_gcd ?m_abs ?m_all ?m_bool ?m_int ?m_isinstance ?m_len ?m_range ?m_repr ?m_str ?m_tuple ?c_MOST_LETTERS
    (case aC_NoText => k_is)
    (case xl_NoText => k_is)
    (case xr_NoText => first | rfl | decide +kernel)
    (case xs_NoText => k_is)
    (case xe_NoText => k_is)
    (case xt_NoText => k_is)
    (case xk_NoText => k_is)
    (case iC_NoText => k_is)
    (case tC_NoText => k_is)
    (case il_NoText => k_is)
    (case ic_NoText => k_is)
    (case ik_NoText => k_is)
    (case nC_NoText_line => k_is)
    (case nC_NoText_column => k_is)
    (case e0_NoText => k_is)
    (case e1_NoText => k_is)
    (case e2_NoText => k_is)
    (case e3_NoText => k_is)
    (case e4_NoText => k_is)
    (case e5_NoText => k_is)
    (case e6_NoText => k_is)
    (case e7_NoText => k_is)
    (case kint_NoText => k_is)
    (case kbool_NoText => k_is)
    (case kstr_NoText => k_is)
    (case ktuple_NoText => k_is)
    (case klist_NoText => k_is)
    (case kdict_NoText => k_is)
    (case a_is_integer => k_is)
    (case l_is_integer => k_is)
    (case c_is_integer => k_is)
    (case k_is_integer => k_is)
    (case a_is_name => k_is)
    (case l_is_name => k_is)
    (case c_is_name => k_is)
    (case k_is_name => k_is)
    (case a__is_tuple_of => k_is)
    (case l__is_tuple_of => k_is)
    (case c__is_tuple_of => k_is)
    (case k__is_tuple_of => k_is)
    (case a_is_fraction => k_is)
    (case l_is_fraction => k_is)
    (case c_is_fraction => k_is)
    (case k_is_fraction => k_is)
    (case a_reduced => k_is)
    (case l_reduced => k_is)
    (case c_reduced => k_is)
    (case k_reduced => k_is)
    (case a_is_deed => k_is)
    (case l_is_deed => k_is)
    (case c_is_deed => k_is)
    (case k_is_deed => k_is)
    (case a_are_deeds => k_is)
    (case l_are_deeds => k_is)
    (case c_are_deeds => k_is)
    (case k_are_deeds => k_is)
    (case a__law_bag => k_is)
    (case l__law_bag => k_is)
    (case c__law_bag => k_is)
    (case k__law_bag => k_is)
    (case a__law_take => k_is)
    (case l__law_take => k_is)
    (case c__law_take => k_is)
    (case k__law_take => k_is)
    (case a__law_some => k_is)
    (case l__law_some => k_is)
    (case c__law_some => k_is)
    (case k__law_some => k_is)
    (case a__law_alike => k_is)
    (case l__law_alike => k_is)
    (case c__law_alike => k_is)
    (case k__law_alike => k_is)
    (case a__law_is_int => k_is)
    (case l__law_is_int => k_is)
    (case c__law_is_int => k_is)
    (case k__law_is_int => k_is)
    (case a__law_is_name => k_is)
    (case l__law_is_name => k_is)
    (case c__law_is_name => k_is)
    (case k__law_is_name => k_is)
    (case a__law_common => k_is)
    (case l__law_common => k_is)
    (case c__law_common => k_is)
    (case k__law_common => k_is)
    (case a__law_is_fraction => k_is)
    (case l__law_is_fraction => k_is)
    (case c__law_is_fraction => k_is)
    (case k__law_is_fraction => k_is)
    (case a__law_is_deed => k_is)
    (case l__law_is_deed => k_is)
    (case c__law_is_deed => k_is)
    (case k__law_is_deed => k_is)
    (case a__law_word => k_is)
    (case l__law_word => k_is)
    (case c__law_word => k_is)
    (case k__law_word => k_is)
    (case a__law_any => k_is)
    (case l__law_any => k_is)
    (case c__law_any => k_is)
    (case k__law_any => k_is)
    (case a__law_number => k_is)
    (case l__law_number => k_is)
    (case c__law_number => k_is)
    (case k__law_number => k_is)
    (case a_law => k_is)
    (case l_law => k_is)
    (case c_law => k_is)
    (case k_law => k_is)
    (case g_gcd => k_is)
    (case m_abs => k_is)
    (case m_all => k_is)
    (case m_bool => k_is)
    (case m_int => k_is)
    (case m_isinstance => k_is)
    (case m_len => k_is)
    (case m_range => k_is)
    (case m_repr => k_is)
    (case m_str => k_is)
    (case m_tuple => k_is)
    (case c_MOST_LETTERS => k_is)
