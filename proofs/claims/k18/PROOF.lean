import PyProof.Rows.All
import Wide.All
import OpenK.AllK
import Wide.FinOn
import HandS.ForMost
import HandS.OwnEq
import HandS.IsInst
import HandS.Codes
import HandS.Wide
import HandS.Replace
import HandS.NoneIn
import HandS.Flow
import HandS.Style
import KE.GoesZip
import KE.GoesMore
import KE.GoesEnum
import HandS.Walk
import HandS.RaiseMore
import KE.KDictZip
import HandS.DictComp
import HandS.Strs
import HandS.CallLocal
import HandS.NestedK
import HandS.StrMore
import HandS.FStr
import KE.KExcInit
import HandS.ExcInit
import HandS.ExcIs
import HandS.ExcField
import HandS.MakeKw
import PyProof.ExcBaseAll.LookupError
import HandS.TryMany
import HandS.CallSlots
import HandS.Deep
import HandS.Set
import HandS.SetFor
import HandS.TupLe
import HandS.RevRange
import HandS.Conv
import HandS.ExcValue
import HandS.Star
import KE.KCallOwn
import PyProof.CallFns
import HandS.EndTab
import KE.KExcLine
import PySem.Challenge.RW_allrows_k18_rows_of_lots
set_option Elab.async false
set_option linter.all false
set_option maxRecDepth 100000
namespace LX
open PySem PySem.Spec PyProof.Rows L2 C8 SX
section
variable {X : Cx}
theorem call_list_str (hc : X.calm = true) : CallR X (.type "list") (fun (xs : List V) (H : Hp) (Q : VK) => ∃ l : List Nat, xs = [V.str (S l)] ∧ l.length ≤ sizeLine ∧ ∀ p, H p = none → Q (.ref p) (upd H p (.lst (l.map fun c => V.str (S [c]))))) := by
  intro pins s σ H xs us Q I r h
  obtain ⟨l, rfl, hl, q⟩ := h
  obtain ⟨u, rfl, ru⟩ := vals1 r
  obtain ⟨t, rfl⟩ := ru
  refine PySem.call_list_str (I.ok.hd hc) (S l) t (fun h' tk acc' c' hk hS hacc => ?_) (by simpa [S] using hl)
  have hv : Vals (l.map fun c => V.str (S [c])) acc'.toList := by
    obtain ⟨hsz, hit⟩ := hacc
    have hsz' : acc'.toList.length = l.length := by simpa using hsz
    have gen : ∀ (m : List Nat) (as : List Value), as.length = m.length → (∀ (j : Nat) (v : Value), as[j]? = some v → ∃ (c : Nat) (u : Tok), m[j]? = some c ∧ v = Value.str ⟨#[c]⟩ u) → Vals (m.map fun c => V.str (S [c])) as := by
      intro m
      induction m with
      | nil => intro as ha _; cases as with
        | nil => exact .nil
        | cons a as => cases ha
      | cons c m ih => intro as ha hh; cases as with
        | nil => cases ha
        | cons a as =>
          obtain ⟨c', u, e1, e2⟩ := hh 0 a rfl
          have : c = c' := Option.some.inj e1
          subst this
          exact .cons ⟨u, e2⟩ (ih as (Nat.succ.inj ha) fun j v e => hh (j + 1) v e)
    refine gen l acc'.toList hsz' fun j v e => ?_
    obtain ⟨c, u, e1, e2⟩ := hit j v (by simpa using e)
    exact ⟨c, u, by simpa [S] using e1, e2⟩
  refine ⟨.ref _, _, I.laid (t' := tk) (o := .lst (l.map fun c => V.str (S [c]))) hk (Nat.le_refl _) ⟨by simpa using hl, acc'.toList, c', hv, by simpa using hS⟩, rfl, q _ (I.hok.fresh (Nat.le_refl _))⟩
theorem op_mul_si : OpR X (binaryOp .Mult) (fun x y H Q => ∃ (z : Str) (k : Int), x = .str z ∧ y = .int k ∧ (k = 0 ∨ k = 1) ∧ Q (.str (if k = 0 then S [] else z)) H) := by
  intro pins s σ H x y v u Q I rx ry h
  obtain ⟨z, k, rfl, rfl, hk, q⟩ := h
  obtain ⟨t, rfl⟩ := rx
  obtain ⟨t', rfl⟩ := ry
  rcases hk with rfl | rfl
  · exact PySem.P.mul_str_none (by decide) (by decide) ⟨.str (S []), H, I.tok _, ⟨_, rfl⟩, q⟩
  · refine PySem.P.mul_str (by decide) (fun _ h => by simp at h) (fun _ h => by simp at h) ?_
    rw [if_neg (by decide), if_pos (by simp)]
    exact ⟨.str z, H, I, ⟨t, rfl⟩, q⟩
def tRevS (te ts : TE) : TE := fun σ H Q => te σ H fun x H1 => ts σ H1 fun y H2 => ∃ i, y = .int i ∧ (some i = some (-1) ∧ ∃ l : List Nat, x = .str (S l) ∧ l.length ≤ sizeLine ∧ Q (.str (S l.reverse)) H2)
theorem rev_indices (z : Str) : (Builtin.Str.strSliceIndices none none (-1) z.length).filterMap (z.cps[·]?) = z.cps.toList.reverse := by
  have e : Builtin.Str.strSliceIndices none none (-1) z.length = (List.range z.length).reverse := by
    show sliceRange ((z.length : Int) - 1) (-1) (-1) = _
    rw [PySem.W.krv_sliceRange]
    exact PySem.W.krv_range _
  rw [e, List.filterMap_reverse]
  exact congrArg List.reverse (PySem.W.krv_all z.cps)
theorem pe_revS {e st : Expr} {te ts : TE} {p3 pos : Pos} (he : PE X e te) (hs : PE X st ts) : PE X (.Subscript e (.Slice none none (some st) p3) pos) (tRevS te ts) := by
  refine ⟨fun pins s σ H Q I h => ?_⟩
  refine Subscript_ (thn (he.run pins s σ H _ I h) fun v s1 ⟨x, H1, I1, r1, q1⟩ => ?_)
  have hst : PO X (some st) (tPart ts) := po_some hs
  refine wpAny_Slice (thn (po_none.run pins s1 σ H1 (fun o H2 => o = none ∧ H2 = H1) I1 ⟨rfl, rfl⟩) fun vl s2 ⟨l, H2, I2, pl, el, e2⟩ => ?_)
  subst el e2
  refine thn (po_none.run pins s2 σ H2 (fun o H3 => o = none ∧ H3 = H2) I2 ⟨rfl, rfl⟩) fun vu s3 ⟨u, H3, I3, pu, eu, e3⟩ => ?_
  subst eu e3
  refine thn (hst.run pins s3 σ H3 (fun o H4 => o = some (-1) ∧ ∃ l : List Nat, x = .str (S l) ∧ l.length ≤ sizeLine ∧ Q (.str (S l.reverse)) H4) I3 q1) fun vs s4 ⟨o, H4, I4, ps, eo, l, ex, hl, q⟩ => ?_
  subst eo ex
  obtain ⟨t, rfl⟩ := r1
  have I5 : Inv X pins σ H4 { s4 with heap := s4.heap.push { cls := .type "slice", data := .fields #[vl, vu, vs] } } := I4.kept (t' := s4.toks) fun b ob q => Heap.get?_push_of_some _ q
  show wpAny (model X.prog X.w) X.A (subscriptTail e (.Slice none none (some st) p3) (.str (S l) t) (.ref s4.heap.objs.size)) (EP X pins σ Q) X.xe { s4 with heap := s4.heap.push { cls := .type "slice", data := .fields #[vl, vu, vs] } }
  obtain ⟨l', el, el2⟩ := IsPart.raw pl
  obtain ⟨u', eu, eu2⟩ := IsPart.raw pu
  obtain ⟨s', es, es2⟩ := IsPart.raw ps
  refine tail_any (ops := [.ref s4.heap.objs.size, .str (S l) t]) (typeIs_str _ _ _) F.slot_str_getitem.lookup ?_ (by with_unfolding_all rfl)
  refine wpAny_getItem_str_slice (l := l') (u := u') (st := s') ?_ (by rw [es2]; rfl) ?_
  · rw [el, eu, es]
    exact Heap.IsSliceOf.new ..
  · unfold sliceMade slicePicked
    rw [el2, eu2, es2]
    show Made.post (if ((-1 : Int) == 1 && (Builtin.Str.strSliceIndices none none (-1) (S l).length).length == (S l).length) = true then Made.val (.str (S l) t)
      else Made.str ⟨((Builtin.Str.strSliceIndices none none (-1) (S l).length).filterMap ((S l).cps[·]?)).toArray⟩) (EP X pins σ Q) _
    rw [if_neg (by simp), rev_indices]
    exact ⟨by simpa [Str.length] using hl, .str _, H4, I5.tok _, ⟨_, rfl⟩, q⟩
end
end LX
namespace LX
open PySem PySem.Spec PyProof.Rows L2 C8 SX
inductive Sr where
  | txt (x : Str) | lst (a : Addr) | tup (a : Addr)
def Sr.fp : Sr → List Addr
  | .txt _ => [] | .lst a => [a] | .tup a => [a]
def Sr.has (K : PySem.W.Frag) : Sr → Nat → Hp → Prop
  | .txt x, i, _ => i < x.cps.size
  | .lst a, i, H => ∃ xs, SqL K H a xs ∧ i < xs.length
  | .tup a, i, H => ∃ xs, SqT K H a xs ∧ i < xs.length
def Sr.val (K : PySem.W.Frag) : Sr → Nat → Hp → V → Prop
  | .txt x, i, _, v => ∃ c, x.cps[i]? = some c ∧ v = .str ⟨#[c]⟩
  | .lst a, i, H, v => ∀ xs, SqL K H a xs → xs[i]? = some v
  | .tup a, i, H, v => ∀ xs, SqT K H a xs → xs[i]? = some v
def Sr.upto (K : PySem.W.Frag) : Sr → Nat → Hp → Prop
  | .txt x, i, _ => i ≤ x.cps.size
  | .lst a, i, H => ∃ xs, SqL K H a xs ∧ i ≤ xs.length
  | .tup a, i, H => ∃ xs, SqT K H a xs ∧ i ≤ xs.length
def Sr.ends (K : PySem.W.Frag) : Sr → Nat → Hp → Prop
  | .txt x, i, _ => i = x.cps.size
  | .lst a, i, H => ∃ xs, SqL K H a xs ∧ i = xs.length
  | .tup a, i, H => ∃ xs, SqT K H a xs ∧ i = xs.length
def Sr.tn : Sr → Addr → Nat → Heap → Prop
  | .txt x, it, i, h => ∃ t, h.IsStrIter it (strIterType x) x t i
  | .lst a, it, i, h => h.IsListIter it a i
  | .tup a, it, i, h => h.IsTupleIter it a i
theorem Sr.tn_obj : ∀ {S : Sr} {it : Addr} {i : Nat} {h : Heap}, S.tn it i h → ∃ o, h.get? it = some o ∧ ∀ v, o.data ≠ .cell v
  | .txt _, _, _, _, ⟨_, o, e, _, d⟩ => ⟨o, e, fun v q => by rw [d] at q; cases q⟩
  | .lst _, _, _, _, h => let ⟨o, e, _, d⟩ := h; ⟨o, e, fun v q => by rw [d] at q; cases q⟩
  | .tup _, _, _, _, ⟨o, e, _, d⟩ => ⟨o, e, fun v q => by rw [d] at q; cases q⟩
theorem Sr.tn_keep : ∀ {S : Sr} {it : Addr} {i : Nat} {h h' : Heap}, S.tn it i h → (∀ o, h.get? it = some o → h'.get? it = some o) → S.tn it i h'
  | .txt _, _, _, _, _, ⟨t, o, e, r⟩, k => ⟨t, o, k o e, r⟩
  | .lst _, _, _, _, _, h, k => h.at k
  | .tup _, _, _, _, _, h, k => h.at k
section
variable {X : Cx} {pins : List (Addr × Obj)} {σ : L2.St} {H : Hp} {s : Shared}
structure DrawsAt (X : Cx) (S : Sr) (H : Hp) (s : Shared) (it : Addr) (i : Nat) (n : Nat) : Prop where
  ex : ∃ (Pp : Nat → Value → Prop) (St : Nat → Heap → Prop), (∀ A : Around, A.handled = none → Draws X.prog X.w A it (it :: S.fp) n Pp St) ∧ St i s.heap ∧
    (∀ u, Pp i u → ∃ v, S.val X.K i H v ∧ RelV v u) ∧ ∀ j h', St j h' → S.tn it j h'
theorem Sr.draws (S : Sr) {it : Addr} {i : Nat} (I : Inv X pins σ H s) (hit : ∀ a ∈ S.fp, a ≠ it) (st : S.tn it i s.heap) (hu : S.upto X.K i H) : ∃ n, DrawsAt X S H s it i n ∧ i ≤ n ∧ (S.has X.K i H → i < n) ∧ (S.ends X.K i H → i = n) := by
  cases S with
  | txt x =>
    obtain ⟨t, st⟩ := st
    refine ⟨x.cps.size, ⟨_, _, fun A hh => Draws.text hh it x t, st, fun u ⟨c, u', e, eu⟩ => ?_, fun j h' q => ⟨t, q⟩⟩, hu, fun h => h, fun h => h⟩
    exact ⟨.str ⟨#[c]⟩, ⟨c, e, rfl⟩, ⟨u', eu⟩⟩
  | lst a =>
    obtain ⟨xs, hx, hu⟩ := hu
    obtain ⟨its, rv, p, _⟩ := I.list hx
    have hl := rv.length
    refine ⟨its.toArray.size, ⟨_, _, fun A hh => Draws.list hh it a (hit a (List.mem_singleton.mpr rfl)) its.toArray, ⟨st, p.isList⟩, fun u hq => ?_, fun j h' q => q.1⟩, by simp; omega, fun ⟨ys, hy, h⟩ => ?_, fun ⟨ys, hy, h⟩ => ?_⟩
    · have hq' : its[i]? = some u := by simpa using hq
      have hlt : i < xs.length := by rw [hl]; exact (List.getElem?_eq_some_iff.mp hq').1
      obtain ⟨u', e, r⟩ := rv.get (List.getElem?_eq_getElem hlt)
      rw [hq'] at e
      rw [Option.some.inj e]
      exact ⟨xs[i], fun zs hz => by rw [I.list_inj hz hx]; exact List.getElem?_eq_getElem hlt, r⟩
    · rw [I.list_inj hy hx] at h; simp; omega
    · rw [I.list_inj hy hx] at h; simp; omega
  | tup a =>
    obtain ⟨xs, hx, hu⟩ := hu
    obtain ⟨its, rv, p, _⟩ := I.tuple hx
    have hl := rv.length
    refine ⟨its.toArray.size, ⟨_, _, fun A hh => Draws.tuple hh it a (hit a (List.mem_singleton.mpr rfl)) its.toArray, ⟨st, p⟩, fun u hq => ?_, fun j h' q => q.1⟩, by simp; omega, fun ⟨ys, hy, h⟩ => ?_, fun ⟨ys, hy, h⟩ => ?_⟩
    · have hq' : its[i]? = some u := by simpa using hq
      have hlt : i < xs.length := by rw [hl]; exact (List.getElem?_eq_some_iff.mp hq').1
      obtain ⟨u', e, r⟩ := rv.get (List.getElem?_eq_getElem hlt)
      rw [hq'] at e
      rw [Option.some.inj e]
      exact ⟨xs[i], fun zs hz => by rw [I.tuple_inj hz hx]; exact List.getElem?_eq_getElem hlt, r⟩
    · rw [I.tuple_inj hy hx] at h; simp; omega
    · rw [I.tuple_inj hy hx] at h; simp; omega
end
def ItzX (K : PySem.W.Frag) (S1 S2 : Sr) : It :=
  ⟨fun i H => S1.has K i H ∧ S2.has K i H,
    fun i H v H' => ∃ T x y, v = .ref T ∧ H T = none ∧ H' = upd H T (.tup [x, y]) ∧ S1.val K i H x ∧ S2.val K i H y,
    fun i H => S1.upto K i H ∧ S2.upto K i H ∧ (S1.ends K i H ∨ S2.ends K i H)⟩
theorem Sr.has_upto {K : PySem.W.Frag} : ∀ {S : Sr} {i : Nat} {H : Hp}, S.has K i H → S.upto K i H
  | .txt _, _, _, h => Nat.le_of_lt h
  | .lst _, _, _, ⟨xs, hx, h⟩ => ⟨xs, hx, Nat.le_of_lt h⟩
  | .tup _, _, _, ⟨xs, hx, h⟩ => ⟨xs, hx, Nat.le_of_lt h⟩
theorem turn_zipX {P : Program} {w : World} {K : PySem.W.Frag} {elts : List Expr} {kk : Nat} {tpos : Pos} {z TI TO i1 i2 : Addr} (S1 S2 : Sr) (D : ZipSep2 z TI TO i1 i2 (i1 :: S1.fp) (i2 :: S2.fp)) (n1 : ∀ a ∈ S1.fp, a ≠ i1) (n2 : ∀ a ∈ S2.fp, a ≠ i2) :
    Turn P w K (.Tuple elts kk tpos) (ItzX K S1 S2) [z, TI, TO, i1, i2] z (fun i h => IsZip h z TI TO .none ∧ IsTupOf2 h TI (.ref i1) (.ref i2) ∧ (∃ x y, IsTupOf2 h TO x y) ∧ S1.tn i1 i h ∧ S2.tn i2 i h) where
  mem := by simp
  obj := fun i h st c hc => by
    obtain ⟨hz, hTI, ⟨x, y, hTO⟩, h1, h2⟩ := st
    have e' : c = z ∨ c = TI ∨ c = TO ∨ c = i1 ∨ c = i2 := by simpa using hc
    rcases e' with q | q | q | q | q
    · rw [q]; exact ⟨_, hz, fun v q => nomatch q⟩
    · rw [q]; exact ⟨_, hTI, fun v q => nomatch q⟩
    · rw [q]; exact ⟨_, hTO, fun v q => nomatch q⟩
    · rw [q]; exact Sr.tn_obj h1
    · rw [q]; exact Sr.tn_obj h2
  keep := fun i h h' st k => by
    obtain ⟨hz, hTI, ⟨x, y, hTO⟩, h1, h2⟩ := st
    exact ⟨k z (by simp) _ hz, k TI (by simp) _ hTI, ⟨x, y, k TO (by simp) _ hTO⟩, Sr.tn_keep h1 fun o q => k i1 (by simp) o q, Sr.tn_keep h2 fun o q => k i2 (by simp) o q⟩
  item := by
    intro X hP hw hK hc i pins s σ H E I hf st hg
    subst hP hw hK
    obtain ⟨hz, hTI, ⟨x0, y0, hTO⟩, h1, h2⟩ := st
    obtain ⟨g1, g2⟩ := hg
    obtain ⟨m1, ⟨P1, St1, D1, st1, v1, t1⟩, _, lt1, _⟩ := S1.draws I n1 h1 (Sr.has_upto g1)
    obtain ⟨m2, ⟨P2, St2, D2, st2, v2, t2⟩, _, lt2, _⟩ := S2.draws I n2 h2 (Sr.has_upto g2)
    have hzl : z < s.heap.objs.size := Heap.lt_size hz
    refine wpAny_pyNext_zipD2_item D (D1 _ (I.ok.hd hc)) (D2 _ (I.ok.hd hc)) hz hTI hTO st1 st2 (lt1 g1) (lt2 g2) fun u1 u2 h' tk p1 p2 z' TO' st1' st2' hT hsz hk => ?_
    obtain ⟨x, hx, rx⟩ := v1 u1 p1
    obtain ⟨y, hy, ry⟩ := v2 u2 p2
    refine ⟨_, rfl, wpAny_letOwnedTupleGo_zip (s := { s with heap := h', toks := tk }) z' fun h'' z'' sb => ?_⟩
    have hT2 : h''.get? s.heap.objs.size = some { cls := .type "tuple", data := .seq #[u1, u2] } := (sb.2 _ (Nat.ne_of_gt hzl)).trans hT
    have new : ObjOk X.prog X.w (upd H s.heap.objs.size (.tup [x, y])) h'' s.heap.objs.size (.tup [x, y]) :=
      ⟨by show 2 ≤ sizeLine; decide, [u1, u2], .cons rx (.cons ry .nil), ⟨_, hT2, rfl, _, rfl⟩⟩
    have I1 : Inv X pins σ (upd H s.heap.objs.size (.tup [x, y])) { s with heap := h'', toks := tk } :=
      I.turnedNew (t' := tk) (ch := [z, TI, TO, i1, i2]) (fun c o hb q => (sb.2 c (fun q' => hb (by simp [q']))).trans (hk c o (fun q' => hb (by simp [q'])) (fun q' => hb (by simp [q'])) (fun q' => hb (by simp [q'])) (fun q' => hb (by simp [q'])) q)) hf (Nat.le_refl _) new
    refine ⟨.ref s.heap.objs.size, _, I1, rfl, ⟨_, x, y, rfl, I.hok.fresh (Nat.le_refl _), rfl, hx, hy⟩, ⟨z'', ?_, ⟨u1, u2, ?_⟩, ?_, ?_⟩, fun c hcm => ?_⟩
    · exact (sb.2 _ D.TIz).trans (hk _ _ D.TIz D.TITO D.TIi1 D.TIi2 hTI)
    · exact (sb.2 _ D.TOz).trans TO'
    · exact Sr.tn_keep (t1 _ _ st1') fun o q => (sb.2 _ D.zi1.symm).trans q
    · exact Sr.tn_keep (t2 _ _ st2') fun o q => (sb.2 _ D.zi2.symm).trans q
    · have hlt : c < s.heap.objs.size := by
        have e' : c = z ∨ c = TI ∨ c = TO ∨ c = i1 ∨ c = i2 := by simpa using hcm
        rcases e' with q | q | q | q | q
        · rw [q]; exact hzl
        · rw [q]; exact Heap.lt_size hTI
        · rw [q]; exact Heap.lt_size hTO
        · rw [q]; obtain ⟨_, e1, _⟩ := Sr.tn_obj h1; exact Heap.lt_size e1
        · rw [q]; obtain ⟨_, e2, _⟩ := Sr.tn_obj h2; exact Heap.lt_size e2
      rw [upd_ne (Nat.ne_of_lt hlt)]
      exact (hf c hcm).1
  done := by
    intro X hP hw hK hc i pins s σ H E I hf st hg
    subst hP hw hK
    obtain ⟨hz, hTI, ⟨x0, y0, hTO⟩, h1, h2⟩ := st
    obtain ⟨g1, g2, ge⟩ := hg
    obtain ⟨m1, ⟨P1, St1, D1, st1, v1, t1⟩, le1, _, eq1⟩ := S1.draws I n1 h1 g1
    obtain ⟨m2, ⟨P2, St2, D2, st2, v2, t2⟩, le2, _, eq2⟩ := S2.draws I n2 h2 g2
    exact wpAny_pyNext_zipD2_end D (D1 _ (I.ok.hd hc)) (D2 _ (I.ok.hd hc)) hz hTI hTO st1 st2 le1 le2 (ge.elim (fun q => .inl (eq1 q)) fun q => .inr (eq2 q)) fun h' tk hk => ⟨rfl, I.turnedL (t' := tk) (ch := [z, TI, TO, i1, i2]) (fun c o hb q =>
      hk c o (fun q' => hb (by simp [q'])) (fun q' => hb (by simp [q'])) (fun q' => hb (by simp [q'])) (fun q' => hb (by simp [q'])) q) hf⟩
  self := fun A i s Q E st h => wpAny_pyIter_zip st.1 h
def Sr.of : V → Sr → Prop
  | .str x, .txt y => x = y
  | .ref a, .lst b => a = b
  | .ref a, .tup b => a = b
  | _, _ => False
def Sr.there (K : PySem.W.Frag) (H : Hp) : Sr → Prop
  | .txt _ => True
  | .lst a => ∃ xs, SqL K H a xs
  | .tup a => ∃ xs, SqT K H a xs
theorem Sr.begins {X : Cx} {pins : List (Addr × Obj)} {σ : L2.St} {H : Hp} {s : Shared} (I : Inv X pins σ H s) {v : V} {u : Value} (r : RelV v u) : ∀ {S : Sr}, S.of v → S.there X.K H → ∃ (o : Obj) (HH : Heap → Prop), Begins u o HH ∧ HH s.heap ∧ (∀ a ∈ S.fp, a < s.heap.objs.size) ∧ ∀ (h : Heap) (it : Addr), h.get? it = some o → S.tn it 0 h
  | .txt y, e, _ => by
    cases v with
    | str x =>
      have e' : x = y := e
      subst e'
      obtain ⟨t, rfl⟩ := r
      exact ⟨_, _, begins_text x t, trivial, (fun _ h => nomatch h), fun h it q => ⟨t, _, q, rfl, rfl⟩⟩
    | _ => exact e.elim
  | .lst b, e, ⟨xs, hx⟩ => by
    cases v with
    | ref a =>
      have e' : a = b := e
      subst e'
      cases r
      obtain ⟨its, rv, p, _⟩ := I.list hx
      refine ⟨_, _, begins_list a its.toArray, p.isList, fun c h => ?_, fun h it q => ⟨_, q, rfl, rfl⟩⟩
      rw [List.mem_singleton.mp h]; exact p.lt
    | _ => exact e.elim
  | .tup b, e, ⟨xs, hx⟩ => by
    cases v with
    | ref a =>
      have e' : a = b := e
      subst e'
      cases r
      obtain ⟨its, rv, p, _⟩ := I.tuple hx
      refine ⟨_, _, begins_tuple a its.toArray, p, fun c h => ?_, fun h it q => ⟨_, q, rfl, rfl⟩⟩
      rw [List.mem_singleton.mp h]; exact p.lt
    | _ => exact e.elim
def iZipX (K : PySem.W.Frag) (ta : TA) : TI := fun σ H R => ta σ H fun vs H1 => ∃ (x y : V) (S1 S2 : Sr), vs = [x, y] ∧ S1.of x ∧ S2.of y ∧ S1.there K H1 ∧ S2.there K H1 ∧ R (ItzX K S1 S2) H1
theorem pi_zipX {X : Cx} {e e2 : Expr} {ta : TA} {p pos tpos : Pos} {elts : List Expr} {kk : Nat} (hg : Gl X "zip") (hm : X.mg "zip" = none) (ha : PA X [e, e2] ta)
    (hs : starEach [e, e2] X.env = (false, eval e X.env) :: starEach [e2] X.env := by rfl) (hpl : (backTo pos (starEach [e2] X.env)).any (·.1) = false := by rfl) :
    PI X (.Tuple elts kk tpos) (.Call (.Name "zip" p) [e, e2] [] pos) (iZipX X.K ta) := by
  refine ⟨fun pins s σ H R I h => ?_⟩
  refine Call_ (ld_blt I hg hm PyProof.Rows.boot_zip (PyProof.Rows.callWith_type1 (thn (ha.run pos pins s σ H _ I h) fun us s1 ⟨vs, H1, I1, r1, q1⟩ => ?_) hs hpl))
  obtain ⟨x, y, S1, S2, ex, e1, e2, th1, th2, q⟩ := q1
  subst ex
  obtain ⟨u, u', rfl, r, r'⟩ := vals2 r1
  obtain ⟨o1, HH1, B1, b1, f1, t1⟩ := Sr.begins I1 r e1 th1
  obtain ⟨o2, HH2, B2, b2, f2, t2⟩ := Sr.begins I1 r' e2 th2
  have fresh5 : ∀ c, c ∈ [s1.heap.objs.size + 4, s1.heap.objs.size + 2, s1.heap.objs.size + 3, s1.heap.objs.size, s1.heap.objs.size + 1] → FpOk X pins H1 c := fun c hcm => by
    have e' : c = s1.heap.objs.size + 4 ∨ c = s1.heap.objs.size + 2 ∨ c = s1.heap.objs.size + 3 ∨ c = s1.heap.objs.size ∨ c = s1.heap.objs.size + 1 := by simpa using hcm
    have hle : s1.heap.objs.size ≤ c := by
      rcases e' with z | z | z | z | z
      · rw [z]; exact Nat.le_add_right _ _
      · rw [z]; exact Nat.le_add_right _ _
      · rw [z]; exact Nat.le_add_right _ _
      · rw [z]; exact Nat.le_refl _
      · rw [z]; exact Nat.le_add_right _ _
    exact I1.fpOk hle (I1.hok.fresh hle)
  refine zip_begins2 B1 B2 b1 b2 fun h' hz hTI hTO h1 h2 hsz hk => wpAny_pyIter_zip hz ?_
  have I2 : Inv X pins σ H1 { s1 with heap := h' } := I1.kept (t' := s1.toks) hk
  exact ⟨s1.heap.objs.size + 4, [s1.heap.objs.size + 4, s1.heap.objs.size + 2, s1.heap.objs.size + 3, s1.heap.objs.size, s1.heap.objs.size + 1], _, _, H1, rfl, I2,
    turn_zipX S1 S2 (PySem.zip_sep2 f1 f2) (fun a ha => Nat.ne_of_lt (f1 a ha)) (fun a ha => Nat.ne_of_lt (Nat.lt_succ_of_lt (f2 a ha))), ⟨hz, hTI, ⟨_, _, hTO⟩, t1 _ _ h1, t2 _ _ h2⟩, fresh5, q⟩
end LX
namespace LX
open PySem PySem.Spec PyProof.Rows L2 C8 SX
section
variable {prog : Program} {w : World} {A : Around} {E : Value → Shared → Prop} {s : Shared} {K : PySem.W.Frag} {x y C L f : Addr} {h₀ : Heap} {m : Str → Option Value} {ox : Obj} {od : Option Obj}
theorem objNe_own (X : K.In s.heap) (I : PySem.W.InstAt s.heap x ox C od) (hs : PySem.W.findIn K (.ref C) "__eq__" = some (some (.ref f))) (hf : PySem.W.isFn K (.ref f) = true) (hu : A.units < cLine) {Q : Fin → Shared → Prop}
    (hcall : wpAny (model prog w) A (call (.ref f) [.ref x, .ref y]) (fun v s' => ∃ b, v = .bool b ∧ Q (.done (.ret (.bool (!b)))) s') E s) :
    wpAny (model prog w) A (Builtin.«object.__ne__» ⟨[.ref x, .ref y], []⟩) Q E s := by
  unfold Builtin.«object.__ne__»
  repeat (first
    | with_reducible refine wpAny_cRoomFor hu ?_
    | (refine wpAny_bind (m := callSpecialIfBound? (.ref x) (Str.ofString "__eq__") [.ref y])
        (PySem.W.ifBound_K X I hs hf (wpAny_mono hcall (fun r s' hr => by
          obtain ⟨b, rfl, hq⟩ := hr
          repeat (first | exact hq | exact wpAny_pure hq | exact wpAny_truthy_bool hq | (refine wpAny_bind (m := truthy (.bool _)) (wpAny_truthy_bool ?_)) | wp_step)) fun _ _ e => e)))
    | wp_step)
theorem ifBound_ne {M : Model} {args : List Value} {Q : Option Value → Shared → Prop} (X : K.In s.heap) (I : PySem.W.InstAt s.heap x ox C od) (hs : PySem.W.findIn K (.ref C) "__ne__" = some (some (.builtin "object.__ne__")))
    (h : wpAny M A (call (.builtin "object.__ne__") (.ref x :: args)) (fun v => Q (some v)) E s) : wpAny M A (callSpecialIfBound? (.ref x) "__ne__" args) Q E s := by
  simp only [callSpecialIfBound?, bindSpecialIfBound?]
  refine wpAny_holding (wpAny_bind (wpAny_bind (wpAny_bind (I.type.here ((PySem.W.looks_findIn X hs).here ?_)))))
  simp only [F.cmp_object.ne.bind]
  refine wpAny_bind (wpAny_askSetting (wpAny_ite ?_))
  have fin : wpAny M A (call (.builtin "object.__ne__") ([.ref x] ++ args) >>= fun v => pure (some v)) Q E s := wpAny_bind (wpAny_mono h (fun v s' h' => wpAny_pure h') fun _ _ h' => h')
  split
  · exact wpAny_bind (wpAny_pure (wpAny_pure fin))
  · exact wpAny_tryCatch (wpAny_bind (wpAny_pure (wpAny_pure fin)))
theorem check_ne {M : Model} {Q : Unit → Shared → Prop} (X : K.In s.heap) (I : PySem.W.InstAt s.heap x ox C od) (hm : PySem.W.mroIn K C (.type "object") = some true) (hq : Q () s) :
    wpAny M A (checkBuiltinCall "object.__ne__" ⟨[.ref x, .ref y], []⟩) Q E s := by
  have L0 := I.type (M := M)
  have L1 := PySem.W.looks_mroIn (M := M) X hm
  simp only [checkBuiltinCall, F.cmpKind_ne, F.cmpSplit_ne]
  have ha := F.cmpArgs_ne (.ref x) (.ref y)
  refine wpAny_bind ?_
  unfold isInstance
  repeat lk
  exact hq
theorem rcNe_own (hu : A.units + 1 < cLine) (FF : Fr h₀ L s.heap m) (X₀ : K.In h₀) (I : PySem.W.InstAt s.heap x ox C od) (hb : PySem.W.Looks (model prog w) s.heap (typeOf (.ref y)) (.ref C))
    (hs : PySem.W.findIn K (.ref C) "__eq__" = some (some (.ref f))) (hf : PySem.W.isFn K (.ref f) = true) (hn : PySem.W.findIn K (.ref C) "__ne__" = some (some (.builtin "object.__ne__"))) (hm : PySem.W.mroIn K C (.type "object") = some true)
    {Q : Value → Shared → Prop} (hcall : wpAny (model prog w) A.in1 (call (.ref f) [.ref x, .ref y]) (fun v s' => ∃ b, v = .bool b ∧ Q (.bool (!b)) s') E s) :
    wpAny (model prog w) A (richCompare .NotEq (.ref x) (.ref y)) Q E s := by
  have X := X₀.keeps FF.keep
  have one : wpAny (model prog w) A (tryCompare (.ref x) (cmpInfo .NotEq).2.1 (.ref y)) (fun r s' => ∃ v, r = some v ∧ Q v s') E s := by
    show wpAny (model prog w) A (tryCompare (.ref x) "__ne__" (.ref y)) (fun r s' => ∃ v, r = some v ∧ Q v s') E s
    unfold tryCompare
    refine wpAny_bind (ifBound_ne X I hn (wpAny_call (codeAny_call_builtin F.cmp_object.ne.plain F.cmpEntry_ne (check_ne X I hm (objNe_own (A := A.in1) X I hs hf (by show A.units + 1 < cLine; exact hu) (wpAny_mono hcall (fun v s' hv => ?_) fun _ _ e => e))))))
    obtain ⟨b, rfl, hq⟩ := hv
    first | exact ⟨b, rfl, wpAny_pure ⟨_, rfl, hq⟩⟩ | exact ⟨b, rfl, wpAny_pure (wpAny_pure ⟨_, rfl, hq⟩)⟩ | exact ⟨b, rfl, ⟨_, rfl, hq⟩⟩
  unfold richCompare
  simp only [oneThing_ref]
  refine wpAny_holding (wpAny_bind (wpAny_cRoomFor (by omega) ?_))
  refine wpAny_bind (I.type.here (wpAny_bind (hb.here ?_)))
  rw [show (Value.ref C != Value.ref C) = false from by simp]
  simp only [Bool.false_eq_true, if_false]
  refine wpAny_bind (wpAny_pure ?_)
  simp only [Bool.false_eq_true, if_false]
  refine wpAny_bind (wpAny_mono one (fun r s' z => ?_) fun _ _ e => e)
  obtain ⟨v, rfl, hq⟩ := z
  first | exact wpAny_pure hq | exact hq
end
section
variable {X : Cx} {k j : Nat} {C : Addr} {sp : Sp}
theorem met_run {mth : Str} {pins : List (Addr × Obj)} {σ : L2.St} {H : Hp} {s : Shared} {A : Around} {a b : Addr} {Q : Value → Shared → Prop} (c : Met X.prog X.w X.K X.mg X.base k C mth sp []) (hr : Room k A) (hfr : A.frames = X.A.frames) (I : Inv X pins σ H s)
    {R : VK} (hsp : sp [.ref a, .ref b] H R C8.E0) (hQ : ∀ v z H' s', Inv X pins σ H' s' → RelV z v → R z H' → Q v s') :
    ∃ f, PySem.W.findIn X.K (.ref C) mth = some (some (.ref f)) ∧ PySem.W.isFn X.K (.ref f) = true ∧ wpAny (model X.prog X.w) A (call (.ref f) [.ref a, .ref b]) Q X.xe s := by
  obtain ⟨f, fd, ps, ds, hc, hm, F, hb, hd⟩ := c.ex
  refine ⟨f, hm.at_, hm.fn, ?_⟩
  have e0 : Env0 X.prog X.w X.K X.mg X.base A X.stack s H := by
    have e := I.env0
    exact ⟨by rw [hfr]; exact e.frames, e.mod, e.bs, e.bsz, e.funs, e.frf, e.hok, e.bare⟩
  have hds : ds = [] := by cases hd; rfl
  subst hds
  have hl := F.len _ _ _ _ hsp
  have r2 : Vals [V.ref a, V.ref b] [Value.ref a, Value.ref b] := .cons rfl (.cons rfl .nil)
  refine wpAny_call (codeAny_mono (F.run A X.stack s H ⟨[.ref a, .ref b], []⟩ [.ref a, .ref b] [.ref a, .ref b] _ C8.E0 hr e0 (by
    have := hb s [.ref a, .ref b] I.kIn (by simpa using hl)
    simpa using this) r2 hsp) fun r s' hq => ?_)
  cases r with
  | error e => exact C8.pass0 (E := C8.E0) pins σ H s e s' I hq
  | ok fl =>
    cases fl with
    | ret w =>
      obtain ⟨z, H', I', rz, q⟩ := I.after hq
      exact hQ w z H' s' I' rz q
    | next => exact False.elim hq
    | brk => exact False.elim hq
    | cont => exact False.elim hq
structure NeC (K : PySem.W.Frag) (C : Addr) : Prop where
  ne : PySem.W.findIn K (.ref C) "__ne__" = some (some (.builtin "object.__ne__"))
  ob : PySem.W.mroIn K C (.type "object") = some true
  sf : PySem.W.selfFirst K C = true
def rEqI (C : Addr) (sp : Sp) : R2 := fun x y H Q => ∃ a b dx dy fs gs, x = .ref a ∧ y = .ref b ∧ H a = some (.ins C dx fs) ∧ H b = some (.ins C dy gs) ∧ sp [.ref a, .ref b] H (fun v H' => ∃ r, v = .bl r ∧ Q (.bl r) H') C8.E0
def rNeI (C : Addr) (sp : Sp) : R2 := fun x y H Q => ∃ a b dx dy fs gs, x = .ref a ∧ y = .ref b ∧ H a = some (.ins C dx fs) ∧ H b = some (.ins C dy gs) ∧ sp [.ref a, .ref b] H (fun v H' => ∃ r, v = .bl r ∧ Q (.bl (!r)) H') C8.E0
def rOpI (C : Addr) (sp : Sp) : R2 := fun x y H Q => ∃ a b dx dy fs gs, x = .ref a ∧ y = .ref b ∧ H a = some (.ins C dx fs) ∧ H b = some (.ins C dy gs) ∧ sp [.ref a, .ref b] H (fun v H' => ∃ p, v = .ref p ∧ Q (.ref p) H') C8.E0
theorem op_eqI (c : Met X.prog X.w X.K X.mg X.base k C "__eq__" sp []) (hr : Room j X.A) (hk : k ≤ j) : OpR X (compareOp .Eq) (rEqI C sp) := by
  intro pins s σ H x y v u Q I rx ry h
  obtain ⟨a, b, dx, dy, fs, gs, rfl, rfl, ha, hb, hsp⟩ := h
  cases rx
  cases ry
  obtain ⟨mA, J, _⟩ := ins_get I.hok ha
  obtain ⟨mB, J', _⟩ := ins_get I.hok hb
  obtain ⟨od, J, _⟩ := J.look
  obtain ⟨od', J', _⟩ := J'.look
  obtain ⟨m, hF⟩ := I.fr
  obtain ⟨f, hs, hf, hw⟩ := met_run (Q := PySem.W.CmpBack (EP X pins σ Q)) c (hr.mono hk) rfl I hsp (fun v z H' s' I' rz q => by
    obtain ⟨r, rfl, q⟩ := q
    cases rz
    exact ⟨.bl r, H', I', rfl, q⟩)
  exact PySem.W.cmp_K (op := .Eq) (tb := .ref C) hr.units0 hF I.ok.mod.kin J J'.type (by simp [PySem.W.notFirst]) hs hf hw
theorem op_neI (n : NeC X.K C) (c : Met X.prog X.w X.K X.mg X.base k C "__eq__" sp []) (hr : Room j X.A) (hk : k + 1 ≤ j) : OpR X (compareOp .NotEq) (rNeI C sp) := by
  intro pins s σ H x y v u Q I rx ry h
  obtain ⟨a, b, dx, dy, fs, gs, rfl, rfl, ha, hb, hsp⟩ := h
  cases rx
  cases ry
  obtain ⟨mA, J, _⟩ := ins_get I.hok ha
  obtain ⟨mB, J', _⟩ := ins_get I.hok hb
  obtain ⟨od, J, _⟩ := J.look
  obtain ⟨od', J', _⟩ := J'.look
  obtain ⟨m, hF⟩ := I.fr
  obtain ⟨f, hs, hf, hw⟩ := met_run (Q := fun v s' => ∃ b, v = .bool b ∧ EP X pins σ Q (.bool (!b)) s') c (hr.mono hk).in1 rfl I hsp (fun v z H' s' I' rz q => by
    obtain ⟨r, rfl, q⟩ := q
    cases rz
    exact ⟨r, rfl, .bl (!r), H', I', rfl, q⟩)
  exact rcNe_own (hu_of hr) hF I.ok.mod.kin J J'.type hs hf n.ne n.ob hw
theorem op_mulI (n : NeC X.K C) (c : Met X.prog X.w X.K X.mg X.base k C "__mul__" sp []) (hr : Room j X.A) (hk : k ≤ j) : OpR X (binaryOp .Mult) (rOpI C sp) := by
  intro pins s σ H x y v u Q I rx ry h
  obtain ⟨a, b, dx, dy, fs, gs, rfl, rfl, ha, hb, hsp⟩ := h
  cases rx
  cases ry
  obtain ⟨mA, J, _⟩ := ins_get I.hok ha
  obtain ⟨mB, J', _⟩ := ins_get I.hok hb
  obtain ⟨od, J, _⟩ := J.look
  obtain ⟨od', J', _⟩ := J'.look
  obtain ⟨m, hF⟩ := I.fr
  obtain ⟨f, hs, hf, hw⟩ := met_run (Q := PySem.W.CmpBack (EP X pins σ Q)) c (hr.mono hk) rfl I hsp (fun v z H' s' I' rz q => by
    obtain ⟨p, rfl, q⟩ := q
    cases rz
    exact ⟨.ref p, H', I', rfl, q⟩)
  exact PySem.W.binop_K (op := .Mult) hF I.ok.mod.kin J J'.type n.sf hs hf hw
theorem op_addI (n : NeC X.K C) (c : Met X.prog X.w X.K X.mg X.base k C "__add__" sp []) (hr : Room j X.A) (hk : k ≤ j) : OpR X (binaryOp .Add) (rOpI C sp) := by
  intro pins s σ H x y v u Q I rx ry h
  obtain ⟨a, b, dx, dy, fs, gs, rfl, rfl, ha, hb, hsp⟩ := h
  cases rx
  cases ry
  obtain ⟨mA, J, _⟩ := ins_get I.hok ha
  obtain ⟨mB, J', _⟩ := ins_get I.hok hb
  obtain ⟨od, J, _⟩ := J.look
  obtain ⟨od', J', _⟩ := J'.look
  obtain ⟨m, hF⟩ := I.fr
  obtain ⟨f, hs, hf, hw⟩ := met_run (Q := PySem.W.CmpBack (EP X pins σ Q)) c (hr.mono hk) rfl I hsp (fun v z H' s' I' rz q => by
    obtain ⟨p, rfl, q⟩ := q
    cases rz
    exact ⟨.ref p, H', I', rfl, q⟩)
  exact PySem.W.binop_K (op := .Add) hF I.ok.mod.kin J J'.type n.sf hs hf hw
end
end LX
namespace LX
open PySem PySem.Spec PyProof.Rows L2 C8 SX
section
variable {X : Cx} {K : PySem.W.Frag} {H : Hp}
def txs (xs : List (List Nat)) : List V := xs.map fun l => V.str (S l)
theorem txs_len (xs : List (List Nat)) : (txs xs).length = xs.length := List.length_map ..
theorem dp_strs : ∀ xs : List (List Nat), DpAll K H (txs xs) (xs.map fun l => PyData.str (S l))
  | [] => .nil
  | x :: xs => .cons (.str _) (dp_strs xs)
theorem eqv_strs : ∀ xs ys : List (List Nat), PyData.eqvAll (xs.map fun l => PyData.str (S l)) (ys.map fun l => PyData.str (S l)) = decide (xs = ys)
  | [], [] => rfl
  | [], _ :: _ => rfl
  | _ :: _, [] => rfl
  | x :: xs, y :: ys => by
    show (S x == S y && PyData.eqvAll (xs.map fun l => PyData.str (S l)) (ys.map fun l => PyData.str (S l))) = _
    rw [S_beq_eq, eqv_strs xs ys, ← Bool.decide_and]
    exact decide_eq_decide.mpr (by rw [List.cons.injEq])
def Small (xs : List (List Nat)) : Prop := ∀ l ∈ xs, ∀ c ∈ l, c < 1114112
theorem lay_strs : ∀ {xs : List (List Nat)}, Small xs → PyData.canLayAll0 (xs.map fun l => PyData.str (S l)) = true ∧ PyData.depthAll (xs.map fun l => PyData.str (S l)) ≤ 1
  | [], _ => ⟨rfl, Nat.zero_le _⟩
  | x :: xs, h => by
    obtain ⟨h1, h2⟩ := lay_strs (xs := xs) fun l hl => h l (List.mem_cons_of_mem _ hl)
    refine ⟨?_, ?_⟩
    · show (PyData.canLay0 (.str (S x)) && PyData.canLayAll0 (xs.map fun l => PyData.str (S l))) = true
      rw [h1, Bool.and_true]
      show (S x).cps.all (· < 0x110000) = true
      rw [← Array.all_toList, List.all_eq_true]
      exact fun c hc => decide_eq_true (h x List.mem_cons_self c hc)
    · show max (PyData.depth (.str (S x))) (PyData.depthAll (xs.map fun l => PyData.str (S l))) ≤ 1
      have e : PyData.depth (.str (S x)) ≤ 1 := Nat.zero_le _
      omega
theorem shaped_lst {xs : List (List Nat)} (h : Small xs) : SeqAt.shaped (.list (xs.map fun l => PyData.str (S l))) = true := by
  obtain ⟨h1, h2⟩ := lay_strs h
  show (PyData.canLayAll0 _ && decide (PyData.depthAll _ + 1 ≤ 64)) = true
  rw [h1, Bool.true_and, decide_eq_true_eq]; omega
theorem shaped_tup {xs : List (List Nat)} (h : Small xs) : SeqAt.shaped (.tuple (xs.map fun l => PyData.str (S l))) = true := by
  obtain ⟨h1, h2⟩ := lay_strs h
  show (PyData.canLayAll0 _ && decide (PyData.depthAll _ + 1 ≤ 64)) = true
  rw [h1, Bool.true_and, decide_eq_true_eq]; omega
def rSs (K : PySem.W.Frag) (f : Bool → Bool) : R2 := fun x y H Q => ∃ (a b : Addr) (xs ys : List (List Nat)), x = .ref a ∧ y = .ref b ∧ ((SqL K H a (txs xs) ∧ SqL K H b (txs ys)) ∨ (SqT K H a (txs xs) ∧ SqT K H b (txs ys))) ∧ Small xs ∧ Small ys ∧ Q (.bl (f (decide (xs = ys)))) H
theorem op_eqSs {k : Nat} (hr : Room k X.A) : OpR X (compareOp .Eq) (rSs X.K fun b => b) := by
  intro pins s σ H x y v u Q I rx ry h
  obtain ⟨a, b, xs, ys, rfl, rfl, hh, hx, hy, q⟩ := h
  rcases hh with ⟨h1, h2⟩ | ⟨h1, h2⟩
  · exact op_eqD hr.units pins s σ H _ _ v u Q I rx ry ⟨_, _, .lst h1 (dp_strs xs), .lst h2 (dp_strs ys), shaped_lst hx, shaped_lst hy, by rw [show PyData.eqv (.list (xs.map fun l => PyData.str (S l))) (.list (ys.map fun l => PyData.str (S l))) = _ from eqv_strs xs ys]; exact q⟩
  · exact op_eqD hr.units pins s σ H _ _ v u Q I rx ry ⟨_, _, .tup h1 (dp_strs xs), .tup h2 (dp_strs ys), shaped_tup hx, shaped_tup hy, by rw [show PyData.eqv (.tuple (xs.map fun l => PyData.str (S l))) (.tuple (ys.map fun l => PyData.str (S l))) = _ from eqv_strs xs ys]; exact q⟩
theorem op_neSs {k : Nat} (hr : Room k X.A) : OpR X (compareOp .NotEq) (rSs X.K fun b => !b) := by
  intro pins s σ H x y v u Q I rx ry h
  obtain ⟨a, b, xs, ys, rfl, rfl, hh, hx, hy, q⟩ := h
  rcases hh with ⟨h1, h2⟩ | ⟨h1, h2⟩
  · exact op_neD hr.units pins s σ H _ _ v u Q I rx ry ⟨_, _, .lst h1 (dp_strs xs), .lst h2 (dp_strs ys), shaped_lst hx, shaped_lst hy, by rw [show PyData.eqv (.list (xs.map fun l => PyData.str (S l))) (.list (ys.map fun l => PyData.str (S l))) = _ from eqv_strs xs ys]; exact q⟩
  · exact op_neD hr.units pins s σ H _ _ v u Q I rx ry ⟨_, _, .tup h1 (dp_strs xs), .tup h2 (dp_strs ys), shaped_tup hx, shaped_tup hy, by rw [show PyData.eqv (.tuple (xs.map fun l => PyData.str (S l))) (.tuple (ys.map fun l => PyData.str (S l))) = _ from eqv_strs xs ys]; exact q⟩
end
theorem occ_idx {l : List Nat} {c : Nat} (h : c ∈ l) : ∃ r, Builtin.Str.occurrences (S l) (S [c]) 0 (S l).length 1 = l.idxOf c :: r := by
  have hlt := List.idxOf_lt_length_of_mem h
  have hat : StrLaws.At (S l) (S [c]) (S l).length (l.idxOf c) := (StrLaws.subAt_one (S l) c _).mpr (by show l[l.idxOf c]? = some c; rw [List.getElem?_eq_getElem hlt, List.getElem_idxOf hlt])
  rcases StrLaws.occ_head (S l) (S [c]) 1 (Nat.le_refl _) with ⟨_, hn⟩ | ⟨i, r, e, ha, hn⟩
  · exact absurd hat (hn _)
  · refine ⟨r, ?_⟩
    have hi : l[i]? = some c := (StrLaws.subAt_one (S l) c i).mp ha
    have h1 : ¬ l.idxOf c < i := fun z => hn _ z hat
    have h2 : ¬ i < l.idxOf c := fun z => by
      obtain ⟨hl, e⟩ := List.getElem?_eq_some_iff.mp hi
      have q := List.not_of_lt_findIdx (p := (· == c)) (xs := l) z
      simp [e] at q
    have : i = l.idxOf c := by omega
    rw [e, this]
structure Keep (Rel : Hp → Hp → Prop) (H1 : Hp) : Prop where
  refl : Rel H1 H1
  trans : ∀ H H', Rel H1 H → Rel H H' → Rel H1 H'
  put : ∀ H D o, Rel H1 H → H1 D = none → Rel H1 (upd H D o)
  get : ∀ H H' D o, Rel H H' → H1 D = none → Rel H1 H → H D = some o → H' D = some o
theorem keep_same {H1 : Hp} : Keep Same H1 where
  refl := Same.refl _
  trans := fun _ _ a b => a.trans b
  put := fun H D o s hD b u e => by rw [upd_ne (ne_of_none e hD)]; exact s b u e
  get := fun H H' D o s _ _ e => s _ _ e
def Bk (Pb : HO → Prop) (b : Addr) (H H' : Hp) : Prop := (∀ a o, a ≠ b → H a = some o → H' a = some o) ∧ ∃ o, H' b = some o ∧ Pb o
theorem keep_bk {Pb : HO → Prop} {b : Addr} {H1 : Hp} (h : ∃ o, H1 b = some o ∧ Pb o) : Keep (Bk Pb b) H1 where
  refl := ⟨fun _ _ _ e => e, h⟩
  trans := fun _ _ p q => ⟨fun a o n e => q.1 a o n (p.1 a o n e), q.2⟩
  put := fun H D o s hD => by
    obtain ⟨o1, e1, _⟩ := h
    refine ⟨fun a u n e => by rw [upd_ne (ne_of_none e hD)]; exact s.1 a u n e, ?_⟩
    rw [upd_ne (ne_of_none e1 hD)]
    exact s.2
  get := fun H H' D o s hD _ e => by
    obtain ⟨o1, e1, _⟩ := h
    exact s.1 D o (ne_of_none e1 hD).symm e
theorem bk_same {Pb : HO → Prop} {b : Addr} {H H' : Hp} (s : Same H H') (h : ∃ o, H b = some o ∧ Pb o) : Bk Pb b H H' := ⟨fun a o _ e => s a o e, let ⟨o, e, p⟩ := h; ⟨o, s b o e, p⟩⟩
theorem sm_put {H H' : Hp} {p : Addr} {o : HO} (s : Same H H') (h : H p = none) : Same H (upd H' p o) := fun b u e => by rw [upd_ne (ne_of_none e h)]; exact s b u e
theorem sm_put' {H H' : Hp} {p : Addr} {o : HO} (s : Same H H') (h : H' p = none) : Same H (upd H' p o) := sm_put s (s.free h)
theorem sm_new {H : Hp} {p : Addr} {o : HO} (h : H p = none) : Same H (upd H p o) := sm_put (Same.refl H) h
theorem sm_seqT {K : PySem.W.Frag} {H H' : Hp} {a : Addr} {xs : List V} (e : Same H H') (h : SqT K H a xs) : SqT K H' a xs :=
  h.elim (fun h => .inl (h.elim (fun h => .inl (e _ _ h)) fun ⟨o, h⟩ => .inr ⟨o, e _ _ h⟩)) fun h => .inr h
theorem bk_seq {Pb : HO → Prop} {K : PySem.W.Frag} {b : Addr} {H H' : Hp} {a : Addr} {xs : List V} (e : Bk Pb b H H') (n : a ≠ b) (h : SqL K H a xs) : SqL K H' a xs := by
  rcases h with (h | ⟨o, h⟩) | h
  · exact .inl (.inl (e.1 _ _ n h))
  · exact .inl (.inr ⟨o, e.1 _ _ n h⟩)
  · exact .inr h
theorem lc_keep {Rel : Hp → Hp → Prop} {J : It} {n : Nat} {G : Hp → Prop} {Y : Nat → Hp → V → Hp → Prop} {H1 : Hp} (kp : Keep Rel H1) (w : Walk J n G Y) {g : TG} {te : TE} {vs : List Nat} {σ : L2.St} {D : Addr} {Qd : Hp → Prop} (hD : H1 D = none) (hn : n < sizeLine)
    (Good : Nat → V → Prop) (hG : ∀ H, Rel H1 H → G H)
    (hs : ∀ i x H H' (R : V → Hp → Prop), i < n → Rel H1 H → Y i H x H' → (∀ y H4, Rel H H4 → Good i y → R y H4) → g x (wipe σ vs) H' fun σ2 H2 => wipe σ2 vs = wipe σ vs ∧ te σ2 H2 R)
    (hd : ∀ ys H, ys.length = n → (∀ (j : Nat) y, ys[j]? = some y → Good j y) → Rel H1 H → H D = some (.lst ys) → Qd H) :
    ∃ W : Nat → Nat → Hp → Prop, (∃ m, W 0 m (upd H1 D (.lst []))) ∧ ∀ i m H, W i m H →
      (J.stop i H ∧ Qd H) ∨ (J.go i H ∧ ∃ Nx : Hp → Prop, (∀ H', Nx H' → ∃ m', m' < m ∧ W (i + 1) m' H') ∧ ∀ x H', J.yld i H x H' → g x (wipe σ vs) H' fun σ2 H2 => wipe σ2 vs = wipe σ vs ∧ tYes σ2 H2 fun b H3 =>
        if b = true then te σ2 H3 fun y H4 => ∃ acc, H4 D = some (.lst acc) ∧ acc.length < sizeLine ∧ Nx (upd H4 D (.lst (acc ++ [y]))) else Nx H3) := by
  refine lc_it w (fun i H => ∃ acc, acc.length = i ∧ H D = some (.lst acc) ∧ Rel H1 H ∧ ∀ (j : Nat) y, acc[j]? = some y → Good j y) ⟨[], rfl, upd_same, kp.put _ _ _ kp.refl hD, fun j y e => by simp at e⟩ (fun i H _ ⟨_, _, _, r, _⟩ => hG H r) (fun i x H H' hi ⟨acc, hl, hDa, r, hg⟩ hy => ?_) (fun H ⟨acc, hl, hDa, r, hg⟩ => hd acc H hl hg r hDa)
  refine hs i x H H' _ hi r hy fun y H4 r4 gy => ?_
  refine ⟨acc, kp.get _ _ _ _ r4 hD r hDa, by omega, acc ++ [y], by simp [hl], upd_same, kp.put _ _ _ (kp.trans _ _ r r4) hD, fun j z e => ?_⟩
  rcases Nat.lt_or_ge j acc.length with h | h
  · rw [List.getElem?_append_left h] at e
    exact hg j z e
  · rw [List.getElem?_append_right h] at e
    have hj : j - acc.length = 0 := by
      rcases Nat.lt_or_ge (j - acc.length) 1 with z | z
      · omega
      · rw [List.getElem?_eq_none (by simpa using z)] at e; cases e
    rw [hj] at e
    have : y = z := Option.some.inj e
    subst this
    have : j = i := by omega
    subst this
    exact gy
theorem list_of {α : Type} {ys : List α} {n : Nat} {f : Nat → α} (hl : ys.length = n) (h : ∀ (j : Nat) y, ys[j]? = some y → y = f j) : ys = (List.range n).map f := by
  apply List.ext_getElem
  · simp [hl]
  · intro i h1 h2
    rw [List.getElem_map, List.getElem_range]
    exact h i _ (List.getElem?_eq_getElem h1)
theorem list_map {α β : Type} {ys : List β} {xs : List α} {f : α → β} (hl : ys.length = xs.length) (h : ∀ (j : Nat) y x, ys[j]? = some y → xs[j]? = some x → y = f x) : ys = xs.map f := by
  apply List.ext_getElem
  · simp [hl]
  · intro i h1 h2
    rw [List.getElem_map]
    exact h i _ _ (List.getElem?_eq_getElem h1) (List.getElem?_eq_getElem (by omega))
end LX
namespace LX
open PySem PySem.Spec PyProof.Rows L2 C8 SX
section
variable {X : Cx}
theorem ixl (K : PySem.W.Frag) (h : X.K = K := by rfl) : IxR X (rIxL K) := by subst h; exact ix_list
theorem ixt (K : PySem.W.Frag) (h : X.K = K := by rfl) : IxR X (rIxT K) := by subst h; exact ix_tup
theorem lenK (K : PySem.W.Frag) (h : X.K = K := by rfl) : CallR X (.builtin "len") (fun xs H Q => ∃ p ys, xs = [.ref p] ∧ (SqL K H p ys ∨ SqT K H p ys) ∧ Q (.int ys.length) H) := by subst h; exact call_len_seq
theorem listK (K : PySem.W.Frag) (h : X.K = K := by rfl) : CallR X (.type "list") (fun xs H Q => ∃ p ys, xs = [.ref p] ∧ (SqL K H p ys ∨ SqT K H p ys) ∧ ∀ l, H l = none → Q (.ref l) (upd H l (.lst ys))) := by subst h; exact call_list_of
theorem tupleK (K : PySem.W.Frag) (h : X.K = K := by rfl) : CallR X (.type "tuple") (fun xs H Q => ∃ p ys, xs = [.ref p] ∧ ((SqL K H p ys ∧ ∀ l, H l = none → Q (.ref l) (upd H l (.tup ys))) ∨ (SqT K H p ys ∧ Q (.ref p) H))) := by subst h; exact call_tuple_of
theorem isiK (K : PySem.W.Frag) (h : X.K = K := by rfl) : CallR X (.builtin "isinstance") (rIsi K) := by subst h; exact call_isi
theorem isiTK (K : PySem.W.Frag) (h : X.K = K := by rfl) : CallR X (.builtin "isinstance") (rIsiT K) := by subst h; exact call_isiT
theorem fldK (K : PySem.W.Frag) {o : Expr} {f : Str} {pos : Pos} {ta : TE} (ha : PE X o ta) (hb : attributeBase o f X.env (eval o X.env) = eval o X.env) (h : X.K = K := by rfl) : PE X (.Attribute o f pos) (tFld K ta f) := by subst h; exact pe_fld ha hb
theorem tupK (K : PySem.W.Frag) {es : List Expr} {k : Nat} {pos : Pos} {t : TGs} (n : Nat) (h : PGs X es t) (hc : X.calm = true := by rfl)
    (hn : (assignEach es X.env).length = n := by rfl) (hst : (assignEach es X.env).findIdx? (·.1) = none := by rfl) (hK : X.K = K := by rfl) : PG X (.Tuple es k pos) (gTup K n t) := by subst hK; exact pg_tup hc h hn hst
theorem unlK (K : PySem.W.Frag) {es : List Expr} {k : Nat} {pos : Pos} {t : TGs} (n : Nat) (h : PGs X es t) (hc : X.calm = true := by rfl)
    (hn : (assignEach es X.env).length = n := by rfl) (hst : (assignEach es X.env).findIdx? (·.1) = none := by rfl) (hK : X.K = K := by rfl) : PG X (.Tuple es k pos) (gUnl K n t) := by subst hK; exact pg_unl hc h hn hst
end
def Sr.is (K : PySem.W.Frag) (H : Hp) (xs : List V) : Sr → Prop
  | .txt x => xs = x.cps.toList.map fun c => V.str ⟨#[c]⟩
  | .lst a => SqL K H a xs
  | .tup a => SqT K H a xs
theorem Sr.is_there {K : PySem.W.Frag} {H : Hp} {xs : List V} : ∀ {S : Sr}, S.is K H xs → S.there K H
  | .txt _, _ => trivial
  | .lst _, h => ⟨xs, h⟩
  | .tup _, h => ⟨xs, h⟩
theorem Sr.is_has {K : PySem.W.Frag} {H : Hp} {xs : List V} {i : Nat} (hi : i < xs.length) : ∀ {S : Sr}, S.is K H xs → S.has K i H
  | .txt x, h => by
    have h' : xs = x.cps.toList.map fun c => V.str ⟨#[c]⟩ := h
    rw [h', List.length_map] at hi
    show i < x.cps.size; simpa using hi
  | .lst _, h => ⟨xs, h, hi⟩
  | .tup _, h => ⟨xs, h, hi⟩
theorem Sr.is_upto {K : PySem.W.Frag} {H : Hp} {xs : List V} {i : Nat} (hi : i ≤ xs.length) : ∀ {S : Sr}, S.is K H xs → S.upto K i H
  | .txt x, h => by
    have h' : xs = x.cps.toList.map fun c => V.str ⟨#[c]⟩ := h
    rw [h', List.length_map] at hi
    show i ≤ x.cps.size; simpa using hi
  | .lst _, h => ⟨xs, h, hi⟩
  | .tup _, h => ⟨xs, h, hi⟩
theorem Sr.is_ends {K : PySem.W.Frag} {H : Hp} {xs : List V} {i : Nat} (hi : i = xs.length) : ∀ {S : Sr}, S.is K H xs → S.ends K i H
  | .txt x, h => by
    have h' : xs = x.cps.toList.map fun c => V.str ⟨#[c]⟩ := h
    rw [h', List.length_map] at hi
    show i = x.cps.size; simpa using hi
  | .lst _, h => ⟨xs, h, hi⟩
  | .tup _, h => ⟨xs, h, hi⟩
theorem Sr.is_val {K : PySem.W.Frag} {H : Hp} {xs : List V} {i : Nat} {v : V} : ∀ {S : Sr}, S.is K H xs → S.val K i H v → xs[i]? = some v
  | .txt x, h, ⟨c, e, ev⟩ => by
    have h' : xs = x.cps.toList.map fun c => V.str ⟨#[c]⟩ := h
    have e' : x.cps.toList[i]? = some c := by simpa using e
    rw [h', List.getElem?_map, e', ev]; rfl
  | .lst _, h, e => e xs h
  | .tup _, h, e => e xs h
theorem walk_zipX {K : PySem.W.Frag} {S1 S2 : Sr} {xs ys : List V} : Walk (ItzX K S1 S2) (min xs.length ys.length) (fun H => S1.is K H xs ∧ S2.is K H ys) (YPair (fun i => xs[i]?) (fun i => ys[i]?)) := by
  refine ⟨fun i _ hi q => ⟨Sr.is_has (by omega) q.1, Sr.is_has (by omega) q.2⟩, fun _ q => ⟨Sr.is_upto (by omega) q.1, Sr.is_upto (by omega) q.2, ?_⟩, fun i H v H' _ q y => ?_⟩
  · rcases Nat.le_total xs.length ys.length with h | h
    · exact .inl (Sr.is_ends (by omega) q.1)
    · exact .inr (Sr.is_ends (by omega) q.2)
  · obtain ⟨T, x, z, h1, h2, h3, h4, h5⟩ := y
    exact ⟨T, x, z, h1, h2, h3, Sr.is_val q.1 h4, Sr.is_val q.2 h5⟩
end LX
namespace LX
open PySem PySem.Spec PyProof.Rows L2 C8 SX
theorem lc_keepH {Rel : Hp → Hp → Prop} {J : It} {n : Nat} {G : Hp → Prop} {Y : Nat → Hp → V → Hp → Prop} {H1 : Hp} (kp : Keep Rel H1) (w : Walk J n G Y) {g : TG} {te : TE} {vs : List Nat} {σ : L2.St} {D : Addr} {Qd : Hp → Prop} (hD : H1 D = none) (hn : n < sizeLine)
    (Good : Nat → V → Hp → Prop) (hG : ∀ H, Rel H1 H → G H)
    (st : ∀ i y H H', Rel H1 H → Rel H H' → Good i y H → Good i y H') (pt : ∀ i y H acc o, Rel H1 H → H D = some (.lst acc) → Good i y H → Good i y (upd H D o))
    (hs : ∀ i x H H' acc (R : V → Hp → Prop), i < n → Rel H1 H → H D = some (.lst acc) → Y i H x H' → (∀ y H4, Rel H H4 → Good i y H4 → R y H4) → g x (wipe σ vs) H' fun σ2 H2 => wipe σ2 vs = wipe σ vs ∧ te σ2 H2 R)
    (hd : ∀ ys H, ys.length = n → (∀ (j : Nat) y, ys[j]? = some y → Good j y H) → Rel H1 H → H D = some (.lst ys) → Qd H) :
    ∃ W : Nat → Nat → Hp → Prop, (∃ m, W 0 m (upd H1 D (.lst []))) ∧ ∀ i m H, W i m H →
      (J.stop i H ∧ Qd H) ∨ (J.go i H ∧ ∃ Nx : Hp → Prop, (∀ H', Nx H' → ∃ m', m' < m ∧ W (i + 1) m' H') ∧ ∀ x H', J.yld i H x H' → g x (wipe σ vs) H' fun σ2 H2 => wipe σ2 vs = wipe σ vs ∧ tYes σ2 H2 fun b H3 =>
        if b = true then te σ2 H3 fun y H4 => ∃ acc, H4 D = some (.lst acc) ∧ acc.length < sizeLine ∧ Nx (upd H4 D (.lst (acc ++ [y]))) else Nx H3) := by
  refine lc_it w (fun i H => ∃ acc, acc.length = i ∧ H D = some (.lst acc) ∧ Rel H1 H ∧ ∀ (j : Nat) y, acc[j]? = some y → Good j y H) ⟨[], rfl, upd_same, kp.put _ _ _ kp.refl hD, fun j y e => by simp at e⟩ (fun i H _ ⟨_, _, _, r, _⟩ => hG H r) (fun i x H H' hi ⟨acc, hl, hDa, r, hg⟩ hy => ?_) (fun H ⟨acc, hl, hDa, r, hg⟩ => hd acc H hl hg r hDa)
  refine hs i x H H' acc _ hi r hDa hy fun y H4 r4 gy => ?_
  have hD4 := kp.get _ _ _ _ r4 hD r hDa
  have r5 := kp.trans _ _ r r4
  refine ⟨acc, hD4, by omega, acc ++ [y], by simp [hl], upd_same, kp.put _ _ _ r5 hD, fun j z e => ?_⟩
  rcases Nat.lt_or_ge j acc.length with h | h
  · rw [List.getElem?_append_left h] at e
    exact pt _ _ _ _ _ r5 hD4 (st _ _ _ _ r r4 (hg j z e))
  · rw [List.getElem?_append_right h] at e
    have hj : j - acc.length = 0 := by
      rcases Nat.lt_or_ge (j - acc.length) 1 with z | z
      · omega
      · rw [List.getElem?_eq_none (by simpa using z)] at e; cases e
    rw [hj] at e
    have : y = z := Option.some.inj e
    subst this
    have : j = i := by omega
    subst this
    exact pt _ _ _ _ _ r5 hD4 gy
end LX
namespace LX
open PySem PySem.Spec PyProof.Rows L2 C8 SX
def bx (x y z : Int) : HO := .lst [.int x, .int y, .int z]
def isBx (o : HO) : Prop := ∃ x y z : Int, o = bx x y z
def BoxAt (b : Addr) (H : Hp) : Prop := ∃ o, H b = some o ∧ isBx o
abbrev Bx (b : Addr) : Hp → Hp → Prop := Bk isBx b
theorem Bx.box {b : Addr} {H H' : Hp} (h : Bx b H H') : BoxAt b H' := h.2
theorem BoxAt.of {b : Addr} {H : Hp} {x y z : Int} (h : H b = some (bx x y z)) : BoxAt b H := ⟨_, h, _, _, _, rfl⟩
theorem Bx.mk {b : Addr} {H : Hp} (x y z : Int) : Bx b H (upd H b (bx x y z)) := ⟨fun a o n e => by rw [upd_ne n]; exact e, _, upd_same, _, _, _, rfl⟩
theorem Bx.trans {b : Addr} {H H1 H2 : Hp} (p : Bx b H H1) (q : Bx b H1 H2) : Bx b H H2 := ⟨fun a o n e => q.1 a o n (p.1 a o n e), q.2⟩
theorem box_ne {b p : Addr} {H : Hp} (h : BoxAt b H) (n : H p = none) : p ≠ b := by
  obtain ⟨o, e, _⟩ := h
  exact (ne_of_none e n).symm
theorem Bx.put {b p : Addr} {H H1 : Hp} {o : HO} (s : Bx b H H1) (h : BoxAt b H) (n : H p = none) : Bx b H (upd H1 p o) := (keep_bk h).put _ _ _ s n
theorem Bx.free {b p : Addr} {H H1 : Hp} (s : Bx b H H1) (n : H1 p = none) : H p = none := by
  cases q : H p with
  | none => rfl
  | some o =>
    by_cases e : p = b
    · subst e; obtain ⟨u, z, _⟩ := s.2; rw [n] at z; cases z
    · rw [s.1 p o e q] at n; cases n
theorem nil1 {σ : L2.St} {H : Hp} {R : List V → Hp → Prop} (h : R [] H) : tNil σ H R := h
theorem consc {v : V} {σ : L2.St} {H : Hp} {R : List V → Hp → Prop} (h : R [v] H) : tCons (tC v) tNil σ H R := h
theorem tc1 {v : V} {σ : L2.St} {H : Hp} {Q : VK} (h : Q v H) : tC v σ H Q := h
theorem ne_str {l r : Str} {H : Hp} {R : VK} (e : l = r) (h : R (.bl false) H) : rNe (.str l) (.str r) H R := ⟨rfl, by rw [decide_eq_true (by rw [e])]; exact h⟩
theorem bl_f {p : Bool → Prop} (h : p false) : ∃ k, V.bl false = V.bl k ∧ p k := ⟨false, rfl, h⟩
theorem if_f {p q : Prop} (h : q) : if false = true then p else q := h
theorem iteB {c : Bool} {A B : Prop} (hc : c = true) (h : A) : if c = true then A else B := by rw [if_pos hc]; exact h
theorem iteN {c : Bool} {A B : Prop} (hc : c = false) (h : B) : if c = true then A else B := by rw [hc]; exact iteF h
theorem perm_at {α : Type} : ∀ {xs : List α} {i : Nat} (h : i < xs.length), (xs[i] :: xs.eraseIdx i).Perm xs
  | x :: xs, 0, _ => List.Perm.refl _
  | x :: xs, i + 1, h => (List.Perm.swap x _ _).trans ((perm_at (xs := xs) (i := i) (Nat.lt_of_succ_lt_succ h)).cons x)
theorem eraseIdx_map' {α β : Type} (f : α → β) : ∀ (xs : List α) (i : Nat), (xs.map f).eraseIdx i = (xs.eraseIdx i).map f
  | [], i => by cases i <;> rfl
  | x :: xs, 0 => rfl
  | x :: xs, i + 1 => congrArg (f x :: ·) (eraseIdx_map' f xs i)
theorem perm_map_inv {α β : Type} {f : α → β} {g : β → α} (hg : ∀ a, g (f a) = a) {ys : List β} {xs : List α} (h : ys.Perm (xs.map f)) : ∃ zs : List α, ys = zs.map f ∧ zs.Perm xs := by
  refine ⟨ys.map g, ?_, ?_⟩
  · rw [List.map_map]
    have : ys.map (f ∘ g) = ys.map id := List.map_congr_left fun y hy => by
      obtain ⟨a, _, rfl⟩ := List.mem_map.mp (h.subset hy)
      show f (g (f a)) = f a
      rw [hg]
    rw [this, List.map_id]
  · have e := h.map g
    rw [List.map_map] at e
    have : xs.map (g ∘ f) = xs.map id := List.map_congr_left fun a _ => hg a
    rw [this, List.map_id] at e
    exact e
theorem sums_singles : ∀ l : List Nat, ((l.map fun c => S [c]).map (·.length)).sum = l.length
  | [] => rfl
  | c :: l => by simp only [List.map_cons, List.sum_cons, sums_singles l, List.length_cons]; rw [S_len]; simp; omega
theorem join_nil : ∀ ys : List (List Nat), TL.joinL [] ys = ys.flatten
  | [] => rfl
  | [y] => by simp [TL.joinL]
  | y :: z :: ys => by
    have ih := join_nil (z :: ys)
    simp [TL.joinL] at ih ⊢
    exact ih
theorem join_txs (ys : List (List Nat)) : Txt.join (S []) (ys.map S) = S ys.flatten := by rw [join_S, join_nil]
theorem flat_singles : ∀ l : List Nat, (l.map fun c => [c]).flatten = l
  | [] => rfl
  | c :: l => by rw [List.map_cons, List.flatten_cons, flat_singles l]; rfl
theorem join_singles (l : List Nat) : Txt.join (S []) (l.map fun c => S [c]) = S l := by
  have e1 : (l.map fun c => S [c]) = (l.map fun c => [c]).map S := by rw [List.map_map]; rfl
  rw [e1, join_txs, flat_singles]
theorem rising_singles : ∀ (ds : List Nat) (c : Nat), risingS (S [c]) (ds.map fun d => S [d]) = true → (∀ d ∈ ds, c ≤ d) ∧ ds.Pairwise (· ≤ ·)
  | [], _, _ => ⟨fun _ h => (nomatch h), .nil⟩
  | d :: ds, c, h => by
    have h' : (!ltCps [d] [c] && risingS (S [d]) (ds.map fun d => S [d])) = true := h
    rw [Bool.and_eq_true, Bool.not_eq_true'] at h'
    obtain ⟨h1, h2⟩ := h'
    obtain ⟨i1, i2⟩ := rising_singles ds d h2
    have hcd : c ≤ d := by
      rcases Nat.lt_or_ge d c with q | q
      · simp [ltCps, q] at h1
      · exact q
    refine ⟨fun e he => ?_, List.pairwise_cons.mpr ⟨i1, i2⟩⟩
    rcases List.mem_cons.mp he with rfl | he
    · exact hcd
    · exact Nat.le_trans hcd (i1 e he)
theorem sorted_singles {ds : List Nat} (h : sortedS (ds.map fun d => S [d]) = true) : ds.Pairwise (· ≤ ·) := by
  cases ds with
  | nil => exact .nil
  | cons d ds =>
    obtain ⟨i1, i2⟩ := rising_singles ds d h
    exact List.pairwise_cons.mpr ⟨i1, i2⟩
theorem strict_of {ds : List Nat} (h : ds.Pairwise (· ≤ ·)) (n : ds.Nodup) : ds.Pairwise (· < ·) :=
  (h.and n).imp fun ⟨a, b⟩ => Nat.lt_of_le_of_ne a b
open Classical in
theorem fun_of {α γ : Type} [DecidableEq α] [Inhabited γ] {sg : List α} (n : sg.Nodup) {P : Nat → α → γ → Prop} (h : ∀ j c, sg[j]? = some c → ∃ v, P j c v) : ∃ g : α → γ, ∀ j c, sg[j]? = some c → P j c (g c) := by
  refine ⟨fun c => if q : ∃ v, P (sg.idxOf c) c v then q.choose else default, fun j c e => ?_⟩
  have hj : j = sg.idxOf c := by
    obtain ⟨hl, e2⟩ := List.getElem?_eq_some_iff.mp e
    subst e2
    exact (n.idxOf_getElem j hl).symm
  have q : ∃ v, P (sg.idxOf c) c v := hj ▸ h j c e
  show P j c (dite _ _ _)
  rw [dif_pos q, hj]
  exact q.choose_spec
theorem paired_map {α β γ : Type} {R : α → β → Prop} {f : γ → α} {g : γ → β} : ∀ {l : List γ}, (∀ c ∈ l, R (f c) (g c)) → Paired R (l.map f) (l.map g)
  | [], _ => .nil
  | c :: l, h => .cons (h c List.mem_cons_self) (paired_map fun d hd => h d (List.mem_cons_of_mem _ hd))
abbrev tk (l : List Nat) : Key := Sum.inr (S l)
theorem tk_inj {l r : List Nat} (h : tk l = tk r) : l = r := by
  have e : S l = S r := Sum.inr.inj h
  have : (S l).cps.toList = (S r).cps.toList := by rw [e]
  simpa [S] using this
theorem valV_none {kvs : List (Key × V)} {k : Key} (h : ∀ p ∈ kvs, p.1 ≠ k) : valV kvs k = none := by
  unfold valV
  rw [List.find?_eq_none.mpr fun p hp => by simpa using h p hp]
  rfl
theorem valV_map' {α : Type} [DecidableEq α] {key : α → Key} (inj : ∀ a b, key a = key b → a = b) {f : α → V} : ∀ {l : List α} {c : α}, c ∈ l → valV (l.map fun a => (key a, f a)) (key c) = some (f c)
  | a :: l, c, h => by
    by_cases e : a = c
    · subst e; exact valV_pos rfl
    · rw [List.map_cons, valV_neg (fun q => e (inj _ _ q))]
      refine valV_map' inj ?_
      rcases List.mem_cons.mp h with q | q
      · exact absurd q.symm e
      · exact q
theorem merge_new : ∀ {more kvs : List (Key × V)}, (∀ p ∈ more, ∀ q ∈ kvs, q.1 ≠ p.1) → (more.map (·.1)).Nodup → mergeK kvs more = kvs ++ more
  | [], kvs, _, _ => by rw [List.append_nil]; rfl
  | p :: more, kvs, h, n => by
    have e : putK kvs p.1 p.2 = kvs ++ [p] := putK_new _ (valV_none fun q hq => h p List.mem_cons_self q hq)
    show mergeK (putK kvs p.1 p.2) more = _
    rw [List.map_cons, List.nodup_cons] at n
    rw [e, merge_new (fun r hr q hq => ?_) n.2, List.append_assoc]
    · rfl
    · rcases List.mem_append.mp hq with hq | hq
      · exact h r (List.mem_cons_of_mem _ hr) q hq
      · rw [List.mem_singleton] at hq
        subst hq
        exact fun e => n.1 (e ▸ List.mem_map_of_mem hr)
theorem merge_nil {more : List (Key × V)} (n : (more.map (·.1)).Nodup) : mergeK [] more = more := by
  rw [merge_new (fun _ _ q h => absurd h List.not_mem_nil) n]; rfl
theorem nodup_keys {α : Type} {key : α → Key} (inj : ∀ a b, key a = key b → a = b) {f : α → V} {l : List α} (n : l.Nodup) : ((l.map fun a => (key a, f a)).map (·.1)).Nodup := by
  rw [List.map_map]
  exact List.pairwise_map.mpr (n.imp fun h e => h (inj _ _ e))
theorem cut_to (ys : List (List Nat)) (k : Nat) : cutV (txs ys) none (some (k : Int)) = txs (ys.take k) := by
  unfold cutV
  rw [HT.sIx_none, HT.sIx_nat, List.drop_zero, Nat.sub_zero, txs_len]
  unfold txs
  rw [← List.map_take]
  rcases Nat.le_total k ys.length with h | h
  · rw [Nat.min_eq_left h]
  · rw [Nat.min_eq_right h, List.take_length, List.take_of_length_le h]
theorem tup_ne_box {H : Hp} {t b : Addr} {xs : List V} (hb : BoxAt b H) (ht : H t = some (.tup xs)) : t ≠ b := by
  obtain ⟨o, e, x, y, z, rfl⟩ := hb
  exact ne_of ht e (by intro h; cases h)
theorem dict_ne_box {H : Hp} {t b : Addr} {xs : List (Key × V)} (hb : BoxAt b H) (ht : H t = some (.dK xs)) : t ≠ b := by
  obtain ⟨o, e, x, y, z, rfl⟩ := hb
  exact ne_of ht e (by intro h; cases h)
theorem not_in_take {α : Type} [DecidableEq α] {ms : List α} {i : Nat} {m : α} (n : ms.Nodup) (h : ms[i]? = some m) : m ∉ ms.take i := fun hm => by
  obtain ⟨j, hj⟩ := List.getElem?_of_mem hm
  have hji : j < i := by
    have := (List.getElem?_eq_some_iff.mp hj).1
    rw [List.length_take] at this; omega
  rw [List.getElem?_take_of_lt hji] at hj
  have h1 := (List.getElem?_eq_some_iff.mp h)
  have h2 := (List.getElem?_eq_some_iff.mp hj)
  obtain ⟨a1, a2⟩ := h1
  obtain ⟨b1, b2⟩ := h2
  have e1 : ms.idxOf m = i := by subst a2; exact n.idxOf_getElem i a1
  have e2 : ms.idxOf m = j := by subst b2; exact n.idxOf_getElem j b1
  omega
theorem take_more {α : Type} {ms : List α} {i : Nat} {m : α} (h : ms[i]? = some m) : ms.take (i + 1) = ms.take i ++ [m] := by
  rw [List.take_succ, h]; rfl
theorem sz {n m : Nat} (h : n ≤ m) (hm : m ≤ 1000) : n ≤ sizeLine := Nat.le_trans (Nat.le_trans h hm) (show 1000 ≤ sizeLine by decide)
end LX
set_option maxHeartbeats 1000000
namespace Toy
open PySem L2 C8 SX LX
def top (i : Nat) : Stmt := PySem.Challenge.pw_allrows_k18_rows_of_lots.main.body.getD i (.Pass ⟨0, 0, 0, 0⟩)
structure BT (mg : Str → Option Value) : Prop where
  m_int : mg "int" = none
  m_len : mg "len" = none
  m_abs : mg "abs" = none
  m_str : mg "str" = none
  m_list : mg "list" = none
  m_tuple : mg "tuple" = none
  m_dict : mg "dict" = none
  m_set : mg "set" = none
  m_isinstance : mg "isinstance" = none
  m_all : mg "all" = none
  m_zip : mg "zip" = none
  m_enumerate : mg "enumerate" = none
  m_range : mg "range" = none
  m_max : mg "max" = none
  m_min : mg "min" = none
  m_sorted : mg "sorted" = none
  m_repr : mg "repr" = none
  m_sum : mg "sum" = none
  m_any : mg "any" = none
  m_reversed : mg "reversed" = none
local macro_rules | `(tactic| walk_at "c") => `(tactic| refine And.intro (by first | (show (0 : Int) < _; omega) | exact Or.inr ⟨by decide, by decide⟩ | exact Or.inl ⟨by decide, by decide⟩ | (exact ⟨by omega, by omega⟩)) ?_)
local macro_rules | `(tactic| walk_at "s1") => `(tactic| first | refine ⟨_, rfl, ?_⟩ | refine ⟨_, _, rfl, rfl, ?_⟩ | refine .inl ⟨_, rfl, ?_⟩ | walk_at "c")
local macro_rules | `(tactic| walk_at "ix") => `(tactic| refine ⟨_, _, _, _, rfl, rfl, SqL.of (by first | assumption | exact upd_same), rfl, ?_⟩)
local macro_rules | `(tactic| walk_at "s") => `(tactic| repeat (walk_at "s1"))
section
variable {P : Program} {w : World} {K : PySem.W.Frag} {mg : Str → Option Value} {base : Heap}
abbrev s_take : Stmt := top 48
abbrev n_take : List Str := ["box", "many", "digit"]
theorem sc_take : FnScope n_take ["box", "many"] (fnScope s_take) := fnScope_by (by decide +kernel)
def spTake : Sp := fun vs H Q _ => ∃ (b : Addr) (n : Int), vs = [.ref b, .int n] ∧ BoxAt b H ∧ 0 < n ∧ n < 1073741824 ∧
  ∀ (d : Int) (H' : Hp), 0 ≤ d → d < n → Bx b H H' → Q (.int d) H'
theorem ok_take (T : BT mg) {f : Addr} {fd : FuncData} (F : Def K mg "_law_take" s_take f fd) (b : Binds K fd ["box", "many"] []) : Cal P w K mg base 1 "_law_take" spTake [] := by
  refine cal0 F b .nil sc_take (fun vs H Q E h => ?_) (fun cdv A outer s H vs Q E hr h => ?_)
  · obtain ⟨b, n, rfl, _⟩ := h; rfl
  · obtain ⟨b, n, rfl, ⟨o, hb, x, y, z, rfl⟩, n0, n1, k⟩ := h
    refine ⟨_, (pss_cons (ps_if (pt_cmpR op_gt (pe_ix (ixl K) (pv 0) pe_int (fun _ _ => rfl)) pe_int (nomark _)) 
        (pss_cons (ps_set (i := 2) sc_take.nd rfl (.inl rfl) (pe_op op_mod (pe_callTy call_int1 (by rfl) T.m_int PyProof.Rows.boot_int (pa_cons (pe_ix (ixl K) (pv 0) pe_int (fun _ _ => rfl)) pa_nil)) (pv 1)))
        (pss_cons (ps_asg (pe_op op_fdiv (pe_ix (ixl K) (pv 0) pe_int (fun _ _ => rfl)) (pv 1)) (pg_sub (pv 0) pe_int set_list))
        (pss_one (ps_ret (pv 2))
        )))
       pss_nil)
      (pss_cons (ps_asg (pe_op op_add (pe_ix (ixl K) (pv 0) pe_int (fun _ _ => rfl)) pe_int) (pg_sub (pv 0) pe_int set_list))
      (pss_cons (ps_asg (pe_op op_mod (pe_callTy call_int1 (by rfl) T.m_int PyProof.Rows.boot_int (pa_cons (pe_op op_add (pe_op op_mul (pe_ix (ixl K) (pv 0) pe_int (fun _ _ => rfl)) pe_int) (pe_op op_mul pe_int (pe_ix (ixl K) (pv 0) pe_int (fun _ _ => rfl)))) pa_nil)) pe_int) (pg_sub (pv 0) pe_int set_list))
      (pss_one (ps_ret (pe_op op_mod (pe_callTy call_int1 (by rfl) T.m_int PyProof.Rows.boot_int (pa_cons (pe_op op_fdiv (pe_ix (ixl K) (pv 0) pe_int (fun _ _ => rfl)) pe_int) pa_nil)) (pv 1)))
      )))), ?_⟩
    walk_at "s"
    walk_at "ix"
    walk_at "s"
    refine ite2 (fun _ => ?_) (fun _ => ?_)
    · walk_at "s"
      walk_at "ix"
      walk_at "s"
      walk_at "ix"
      walk_at "s"
      refine ⟨_, _, _, _, rfl, rfl, hb, rfl, ?_⟩
      walk_at "s"
      exact k _ _ (Int.emod_nonneg _ (by omega)) (Int.emod_lt_of_pos _ n0) (Bx.mk _ _ _)
    · walk_at "s"
      walk_at "ix"
      walk_at "s"
      refine ⟨_, _, _, _, rfl, rfl, hb, rfl, ?_⟩
      walk_at "s"
      walk_at "ix"
      walk_at "s"
      walk_at "ix"
      walk_at "s"
      refine ⟨_, _, _, _, rfl, rfl, upd_same, rfl, ?_⟩
      walk_at "s"
      walk_at "ix"
      walk_at "s"
      exact k _ _ (Int.emod_nonneg _ (by omega)) (Int.emod_lt_of_pos _ n0) ((Bx.mk (x := x) (y := y) (z := z + 1)).trans (Bx.mk _ _ _))
abbrev s_pick : Stmt := top 49
abbrev n_pick : List Str := ["box", "some"]
theorem sc_pick : FnScope n_pick ["box", "some"] (fnScope s_pick) := fnScope_by (by decide +kernel)
def spPick : PySem.W.Frag → Sp := fun K vs H Q _ => ∃ (b l : Addr) (xs : List V), vs = [.ref b, .ref l] ∧ BoxAt b H ∧ l ≠ b ∧ SqL K H l xs ∧ 0 < xs.length ∧ xs.length < 1000 ∧
  ∀ (v : V) (H' : Hp), v ∈ xs → Bx b H H' → Q v H'
theorem ok_pick (T : BT mg) (c_take : Cal P w K mg base 1 "_law_take" spTake []) {f : Addr} {fd : FuncData} (F : Def K mg "_law_pick" s_pick f fd) (b : Binds K fd ["box", "some"] []) : Cal P w K mg base 2 "_law_pick" (spPick K) [] := by
  refine cal0 F b .nil sc_pick (fun vs H Q E h => ?_) (fun cdv A outer s H vs Q E hr h => ?_)
  · obtain ⟨b, l, xs, rfl, _⟩ := h; rfl
  · obtain ⟨b, l, xs, rfl, hb, hlb, hl, h0, h1, k⟩ := h
    refine ⟨_, (pss_one (ps_ret (pe_ix (ixl K) (pv 1) (pe_c c_take hr (by first | decide | omega) (by rfl) (pa_cons (pv 0) (pa_cons (pe_callB (lenK K) (by rfl) T.m_len PySem.boot_len (pa_cons (pv 1) pa_nil)) pa_nil))) (fun _ _ => rfl)))
      ), ?_⟩
    walk_at "s"
    refine ⟨_, _, rfl, .inl hl, ?_⟩
    refine ⟨b, (xs.length : Int), rfl, hb, by omega, by omega, fun d H' d0 d1 hB => ?_⟩
    have hd : d.toNat < xs.length := by omega
    refine ⟨_, _, _, xs[d.toNat], rfl, rfl, bk_seq hB hlb hl, ?_, ?_⟩
    · exact at_of (by omega) (List.getElem?_eq_getElem hd)
    · exact k _ _ (List.getElem_mem hd) hB
abbrev s_mixed : Stmt := top 50
abbrev n_mixed : List Str := ["box", "some", "rest", "found"]
theorem sc_mixed : FnScope n_mixed ["box", "some"] (fnScope s_mixed) := fnScope_by (by decide +kernel)
def spMixed : PySem.W.Frag → Sp := fun K vs H Q _ => ∃ (b l : Addr) (xs : List (List Nat)), vs = [.ref b, .ref l] ∧ BoxAt b H ∧ l ≠ b ∧ SqL K H l (txs xs) ∧ Small xs ∧ xs.length < 1000 ∧
  ∀ (ys : List (List Nat)) (p : Addr) (H' : Hp), ys.Perm xs → H p = none → Bx b H H' → H' p = some (.lst (txs ys)) → Q (.ref p) H'
theorem ok_mixed (T : BT mg) (c_take : Cal P w K mg base 1 "_law_take" spTake []) {f : Addr} {fd : FuncData} (F : Def K mg "_law_mixed" s_mixed f fd) (b : Binds K fd ["box", "some"] []) : Cal P w K mg base 2 "_law_mixed" (spMixed K) [] := by
  refine cal0 F b .nil sc_mixed (fun vs H Q E h => ?_) (fun cdv A outer s H vs Q E hr h => ?_)
  · obtain ⟨b, l, xs, rfl, _⟩ := h; rfl
  · obtain ⟨b, l, xs, rfl, hb, hlb, hl, hs, h1, k⟩ := h
    refine ⟨_, (pss_cons (ps_par (i := 2) (j := 3) rfl sc_mixed.nd rfl rfl (by decide) rfl rfl (pa_cons (pe_callTy (listK K) (by rfl) T.m_list PyProof.Rows.boot_list (pa_cons (pv 1) pa_nil)) (pa_cons (pe_lst pa_nil) pa_nil)) rfl)
      (pss_cons (ps_while PassesOwn.never (pt_cmpR (op_neSs hr) (pv 2) (pe_lst pa_nil) (nomark _)) 
        (pss_one (ps_expr (pe_bm PySem.F.plainAttrs_list PySem.F.slot_list_append PySem.F.type_list_append mt_append (pv 3) (pa_cons (pe_bm PySem.F.plainAttrs_list PySem.F.slot_list_pop PySem.F.type_list_pop mt_popAt (pv 2) (pa_cons (pe_c c_take hr (by first | decide | omega) (by rfl) (pa_cons (pv 0) (pa_cons (pe_callB (lenK K) (by rfl) T.m_len PySem.boot_len (pa_cons (pv 2) pa_nil)) pa_nil))) pa_nil)) pa_nil)))
        ))
      (pss_one (ps_ret (pv 3))
      ))), ?_⟩
    walk_at "s"
    refine nil1 ⟨_, _, rfl, .inl hl, fun p hp => ?_⟩
    have hpb := box_ne hb hp
    refine ⟨Nat.zero_le _, fun q hq => ?_⟩
    have hqp : q ≠ p := fun e => by rw [e, upd_same] at hq; cases hq
    have hq0 : H q = none := by rw [upd_ne hqp] at hq; exact hq
    have hqb := box_ne hb hq0
    refine nil1 ⟨_, _, rfl, ?_⟩
    refine ⟨fun m σ H' => ∃ rs fs : List (List Nat), m = rs.length ∧ σ = [some (.ref b), some (.ref l), some (.ref p), some (.ref q)] ∧ (rs ++ fs).Perm xs ∧ H' p = some (.lst (txs rs)) ∧ H' q = some (.lst (txs fs)) ∧ Bx b H H',
      ⟨xs.length, xs, [], rfl, rfl, by rw [List.append_nil], by rw [upd_ne hqp.symm, upd_same], by rw [upd_same]; rfl, Bx.put (Bx.put (bk_same (Same.refl H) hb) hb hp) hb hq0⟩, ?_⟩
    rintro m σ H' ⟨rs, fs, rfl, rfl, hperm, hrp, hrq, hB⟩
    have hsm : Small rs := fun r hr => hs r (hperm.subset (List.mem_append_left _ hr))
    have hlen : rs.length + fs.length = xs.length := by rw [← List.length_append]; exact hperm.length_eq
    refine ⟨_, rfl, Nat.zero_le _, fun t ht => ?_⟩
    have hB' : Bx b H (upd H' t (.lst [])) := Bx.put hB hb (hB.free ht)
    have hpt : p ≠ t := ne_of_none hrp ht
    have hqt : q ≠ t := ne_of_none hrq ht
    refine ⟨p, t, rs, [], rfl, rfl, .inl ⟨SqL.of (by rw [upd_ne hpt]; exact hrp), SqL.of upd_same⟩, hsm, (fun _ h => nomatch h), ?_⟩
    by_cases e : rs = []
    · refine ⟨_, rfl, iteN (by simp [e]) ?_⟩
      subst e
      refine ⟨_, rfl, ?_⟩
      exact k fs q _ hperm hq0 hB' (by rw [upd_ne hqt]; exact hrq)
    · refine ⟨_, rfl, iteB (by simp [e]) ?_⟩
      have hpos : 0 < rs.length := List.length_pos_iff.mpr e
      have hp' : upd H' t (.lst []) p = some (.lst (txs rs)) := by rw [upd_ne hpt]; exact hrp
      have hq' : upd H' t (.lst []) q = some (.lst (txs fs)) := by rw [upd_ne hqt]; exact hrq
      refine ⟨fun σ' H' => ∃ rs' fs' : List (List Nat), rs.length - 1 = rs'.length ∧ σ' = [some (.ref b), some (.ref l), some (.ref p), some (.ref q)] ∧ (rs' ++ fs').Perm xs ∧ H' p = some (.lst (txs rs')) ∧ H' q = some (.lst (txs fs')) ∧ Bx b H H',
        fun σ' H' h => ⟨rs.length - 1, by omega, h⟩, ?_⟩
      refine ⟨_, rfl, .inl ⟨rfl, _, SqL.of hq'⟩, ?_⟩
      refine ⟨_, rfl, .inl ⟨rfl, _, SqL.of hp'⟩, ?_⟩
      refine ⟨_, rfl, _, rfl, p, _, rfl, .inl (SqL.of hp'), ?_⟩
      rw [txs_len]
      refine ⟨b, (rs.length : Int), rfl, hB'.2, by omega, by omega, fun d H2 d0 d1 hB2 => ?_⟩
      have hpb2 : p ≠ b := hpb
      have hp2 : H2 p = some (.lst (txs rs)) := hB2.1 _ _ hpb hp'
      have hq2 : H2 q = some (.lst (txs fs)) := hB2.1 _ _ hqb hq'
      have hd : d.toNat < rs.length := by omega
      refine ⟨p, txs rs, d, d.toNat, .str (S rs[d.toNat]), rfl, rfl, hp2, by omega, by omega, by rw [txs_len]; exact PySem.seqIndex_of d0 (by omega), ?_, ?_⟩
      · unfold txs; rw [List.getElem?_map, List.getElem?_eq_getElem hd]; rfl
      refine ⟨q, txs fs, _, rfl, rfl, by rw [upd_ne hqp]; exact hq2, by rw [txs_len]; exact small1000 (by omega), ?_⟩
      refine ⟨rs.eraseIdx d.toNat, fs ++ [rs[d.toNat]], ?_, rfl, ?_, ?_, ?_, ?_⟩
      · rw [List.length_eraseIdx]; simp [hd]
      · refine List.Perm.trans ?_ hperm
        refine List.Perm.trans ?_ (List.Perm.append_right fs (perm_at hd))
        rw [← List.append_assoc]
        exact List.perm_append_comm
      · rw [upd_ne hqp.symm, upd_same]; unfold txs; rw [eraseIdx_map']
      · rw [upd_same]; unfold txs; rw [List.map_append]; rfl
      · exact Bx.put (Bx.put (hB'.trans hB2) hb hp) hb hq0
theorem s_a : (Str.ofString "a") = S [97] := by decide +kernel
theorem s_b : (Str.ofString "b") = S [98] := by decide +kernel
theorem s_c : (Str.ofString "c") = S [99] := by decide +kernel
theorem s_x : (Str.ofString "x") = S [120] := by decide +kernel
theorem s_z : (Str.ofString "z") = S [122] := by decide +kernel
theorem s_nil : (Str.ofString "") = S [] := by decide +kernel
def Sg (sg : List Nat) : Prop := sg.Pairwise (· < ·) ∧ 1 ≤ sg.length ∧ sg.length ≤ 3 ∧ ∀ c ∈ sg, 97 ≤ c ∧ c ≤ 122
theorem txs_get {ims : List (List Nat)} {i : Nat} {x : V} (h : (txs ims)[i]? = some x) : ∃ l, ims[i]? = some l ∧ x = .str (S l) := by
  unfold txs at h
  rw [List.getElem?_map] at h
  cases q : ims[i]? with
  | none => rw [q] at h; cases h
  | some l => rw [q] at h; exact ⟨l, rfl, (Option.some.inj h).symm⟩
theorem txs_of {ims : List (List Nat)} {f : List Nat → List Nat} {ys : List V} (hl : ys.length = (txs ims).length) (h : ∀ (j : Nat) y, ys[j]? = some y → ∀ l, ims[j]? = some l → y = .str (S (f l))) : ys = txs (ims.map f) := by
  have e : txs (ims.map f) = ims.map fun l => V.str (S (f l)) := by unfold txs; rw [List.map_map]; rfl
  rw [e]
  exact list_map (by rw [hl, txs_len]) fun j y l e1 e2 => h j y e1 l e2
def ab5 : List (List Nat) := [[97], [98], [99], [120], [122]]
abbrev s_signs : Stmt := top 51
abbrev n_signs : List Str := ["box", "many", "sign"]
theorem sc_signs : FnScope n_signs ["box"] (fnScope s_signs) := fnScope_by (by decide +kernel)
def spSigns : Sp := fun vs H Q _ => ∃ (b : Addr), vs = [.ref b] ∧ BoxAt b H ∧ ∀ (sg : List Nat) (H' : Hp), Sg sg → (∀ c ∈ sg, c ≠ 113) → Bx b H H' → Q (.str (S sg)) H'
theorem ok_signs (T : BT mg) (c_pick : Cal P w K mg base 2 "_law_pick" (spPick K) []) (c_mixed : Cal P w K mg base 2 "_law_mixed" (spMixed K) []) {f : Addr} {fd : FuncData} (F : Def K mg "_law_signs" s_signs f fd) (b : Binds K fd ["box"] []) : Cal P w K mg base 3 "_law_signs" spSigns [] := by
  refine cal0 F b .nil sc_signs (fun vs H Q E h => ?_) (fun cdv A outer s H vs Q E hr h => ?_)
  · obtain ⟨b, rfl, _⟩ := h; rfl
  · obtain ⟨b, rfl, hb, k⟩ := h
    refine ⟨_, (pss_cons (ps_set (i := 1) sc_signs.nd rfl (.inl rfl) (pe_c c_pick hr (by first | decide | omega) (by rfl) (pa_cons (pv 0) (pa_cons (pe_lst (pa_cons pe_int (pa_cons pe_int (pa_cons pe_int (pa_cons pe_int (pa_cons pe_int pa_nil)))))) pa_nil))))
      (pss_one (ps_ret (pe_join pe_str (pe_callB cr_sortedS (by rfl) T.m_sorted PyProof.Rows.boot_sorted (pa_cons (pe_lc (own := [("sign", 2)]) rfl sc_signs.nd (pi_list (pe_slice sl_list (pe_c c_mixed hr (by first | decide | omega) (by rfl) (pa_cons (pv 0) (pa_cons (pe_lst (pa_cons pe_str (pa_cons pe_str (pa_cons pe_str (pa_cons pe_str (pa_cons pe_str pa_nil)))))) pa_nil))) po_none (po_some (pv 1)))) (blkOk_by (N := n_signs) (sc := fnScope s_signs) (by decide +kernel)) (fun _ _ _ _ _ => (pg_name (i := 2) sc_signs.nd rfl (.inl rfl))) (fun _ _ _ _ _ => pts_nil) (fun _ _ _ _ _ => (pe_callTy SkE.call_str_str (by rfl) T.m_str PyProof.Rows.boot_str (pa_cons (pv 2) pa_nil)))) pa_nil))))
      )), ?_⟩
    walk_at "s"
    refine ⟨by decide, fun p hp => ?_⟩
    have hpb := box_ne hb hp
    have hB0 : Bx b H (upd H p (.lst [.int 2, .int 2, .int 2, .int 3, .int 1])) := Bx.put (bk_same (Same.refl H) hb) hb hp
    refine ⟨b, p, _, rfl, hB0.2, hpb, SqL.of upd_same, by decide, by decide, fun v H1 hv hB1 => ?_⟩
    obtain ⟨m, rfl, m1, m3⟩ : ∃ m : Nat, v = .int m ∧ 1 ≤ m ∧ m ≤ 3 := by
      have e : v = .int 2 ∨ v = .int 2 ∨ v = .int 2 ∨ v = .int 3 ∨ v = .int 1 := by simpa using hv
      rcases e with rfl | rfl | rfl | rfl | rfl
      · exact ⟨2, rfl, by decide, by decide⟩
      · exact ⟨2, rfl, by decide, by decide⟩
      · exact ⟨2, rfl, by decide, by decide⟩
      · exact ⟨3, rfl, by decide, by decide⟩
      · exact ⟨1, rfl, by decide, by decide⟩
    have hB2 := hB0.trans hB1
    walk_at "s"
    refine ⟨⟨_, rfl⟩, ?_⟩
    walk_at "s"
    refine ⟨by decide, fun q hq => ?_⟩
    have hqb := box_ne hB2.2 hq
    have hB3 : Bx b H (upd H1 q (.lst [.str (Str.ofString "a"), .str (Str.ofString "b"), .str (Str.ofString "c"), .str (Str.ofString "x"), .str (Str.ofString "z")])) := Bx.put hB2 hb (hB2.free hq)
    refine ⟨b, q, ab5, rfl, hB3.2, hqb, SqL.of (by rw [upd_same, s_a, s_b, s_c, s_x, s_z]; rfl), (by intro l hl c hc; simp [ab5] at hl; rcases hl with rfl | rfl | rfl | rfl | rfl <;> simp at hc <;> omega), by decide, fun ys r H2 hys hr hB4 hr2 => ?_⟩
    have hB5 := hB3.trans hB4
    obtain ⟨cs, rfl, hcs⟩ := perm_map_inv (f := fun c => [c]) (g := fun l => l.headD 0) (fun _ => rfl) (show ys.Perm ([97, 98, 99, 120, 122].map fun c => [c]) from hys)
    have hl5 : cs.length = 5 := hcs.length_eq
    have ecut : cutV (txs (cs.map fun c => [c])) none (some (m : Int)) = txs ((cs.take m).map fun c => [c]) := by
      unfold cutV
      rw [HT.sIx_none, HT.sIx_nat, txs_len, List.length_map, hl5, Nat.min_eq_left (by omega)]
      unfold txs
      rw [List.drop_zero, Nat.sub_zero, ← List.map_take, ← List.map_take]
    refine ⟨_, rfl, _, rfl, r, _, rfl, SqL.of hr2, fun q2 hq2 => ?_⟩
    rw [ecut]
    have hB6 : Bx b H (upd H2 q2 (.lst (txs ((cs.take m).map fun c => [c])))) := Bx.put hB5 hb (hB5.free hq2)
    have hlm : (cs.take m).length = m := by rw [List.length_take]; omega
    refine ⟨_, rfl, ⟨_, SqL.of upd_same⟩, fun D hD => lc_keep keep_same (walk_list (K := K) (a := q2) (xs := txs ((cs.take m).map fun c => [c]))) hD (by rw [txs_len, List.length_map, hlm]; exact small1000 (by omega)) (fun j y => ∀ l, ((cs.take m).map fun c => [c])[j]? = some l → y = .str (S l)) (fun H2 r1 => SqL.of (r1 _ _ upd_same)) (fun i x H3 H4 R hii r1 hy hR => ?_) (fun ys H3 hly hg r1 hDs => ?_)⟩
    · obtain ⟨rfl, e⟩ := hy
      obtain ⟨l, el, rfl⟩ := txs_get e
      refine ⟨rfl, ?_⟩
      refine ⟨_, rfl, _, rfl, ?_⟩
      exact hR _ _ (Same.refl _) fun l' h => by rw [el] at h; rw [Option.some.inj h]
    have eys := txs_of (f := id) hly hg
    rw [List.map_id] at eys
    subst eys
    refine ⟨D, (cs.take m).map fun c => S [c], rfl, SqL.of (by rw [hDs]; unfold txs; rw [List.map_map, List.map_map]; rfl), by rw [List.length_map, hlm]; omega, fun ss z hss hsrt hz => ?_⟩
    obtain ⟨ds, rfl, hds⟩ := perm_map_inv (f := fun c => S [c]) (g := fun x => x.cps.toList.headD 0) (fun _ => rfl) hss
    have hnd : ds.Nodup := hds.nodup_iff.mpr ((hcs.nodup_iff.mpr (by decide)).sublist (List.take_sublist _ _))
    have hdl : ds.length = m := by rw [hds.length_eq, hlm]
    refine ⟨_, z, ds.map fun c => S [c], rfl, rfl, .inl (SqL.of upd_same), ?_, ?_⟩
    · rw [sums_singles, s_nil, S_len]; simp only [List.length_nil, Nat.mul_zero, Nat.add_zero]; omega
    · show Q (.str (Txt.join (Str.ofString "") (ds.map fun c => S [c]))) _
      rw [s_nil, join_singles]
      refine k ds _ ⟨strict_of (sorted_singles hsrt) hnd, by omega, by omega, fun c hc => ?_⟩ (fun c hc => ?_) (Bx.put (hB6.trans (bk_same r1 hB6.2)) hb ?_)
      · have h5 := hcs.subset (List.mem_of_mem_take (hds.subset hc))
        simp at h5; omega
      · have h5 := hcs.subset (List.mem_of_mem_take (hds.subset hc))
        simp at h5; omega
      · exact (hB6.trans (bk_same r1 hB6.2)).free hz
end
end Toy
set_option maxHeartbeats 1000000
namespace Toy
open PySem L2 C8 SX LX
local macro_rules | `(tactic| walk_at "c") => `(tactic| refine And.intro (by first | (show (0 : Int) < _; omega) | exact Or.inr ⟨by decide, by decide⟩ | exact Or.inl ⟨by decide, by decide⟩ | (exact ⟨by omega, by omega⟩)) ?_)
local macro_rules | `(tactic| walk_at "s1") => `(tactic| first | refine ⟨_, rfl, ?_⟩ | refine ⟨_, _, rfl, rfl, ?_⟩ | refine .inl ⟨_, rfl, ?_⟩ | walk_at "c")
local macro_rules | `(tactic| walk_at "s") => `(tactic| repeat (walk_at "s1"))
section
variable {P : Program} {w : World} {K : PySem.W.Frag} {mg : Str → Option Value} {base : Heap}
theorem s_no : (Str.ofString "no") = S [110, 111] := by decide +kernel
theorem s_yes : (Str.ofString "yes") = S [121, 101, 115] := by decide +kernel
theorem s_ma : (Str.ofString "ma") = S [109, 97] := by decide +kernel
theorem s_mb : (Str.ofString "mb") = S [109, 98] := by decide +kernel
theorem s_even : (Str.ofString "even") = S [101, 118, 101, 110] := by decide +kernel
theorem s_seen : (Str.ofString "seen") = S [115, 101, 101, 110] := by decide +kernel
theorem s_zz : (Str.ofString "zz") = S [122, 122] := by decide +kernel
theorem s_ready : (Str.ofString "ready") = S [114, 101, 97, 100, 121] := by decide +kernel
def nm8 : List (List Nat) := [[110, 111], [121, 101, 115], [109, 97], [109, 98], [101, 118, 101, 110], [115, 101, 101, 110], [122, 122], [114, 101, 97, 100, 121]]
theorem nm8_small : Small nm8 := by
  intro l hl c hc
  simp [nm8] at hl
  rcases hl with rfl | rfl | rfl | rfl | rfl | rfl | rfl | rfl <;> simp at hc <;> omega
def Nm (m : List Nat) : Prop := 2 ≤ m.length ∧ m.length ≤ 6 ∧ (∀ c ∈ m, 97 ≤ c ∧ c ≤ 122)
def Mks (ms : List (List Nat)) (most : Nat) : Prop := ms.Nodup ∧ 1 ≤ ms.length ∧ ms.length ≤ most ∧ ∀ m ∈ ms, m ∈ nm8
structure Mch (sg : List Nat) (ms : List (List Nat)) (f : List Nat) (tg : List Nat → Nat → List Nat) (most : Nat) : Prop where
  hsg : Sg sg
  hms : Mks ms most
  hf : f ∈ ms
  htg : ∀ m ∈ ms, ∀ c ∈ sg, tg m c ∈ ms
theorem k_signs : (Sum.inr (Str.ofString "signs") : Key) = tk [115, 105, 103, 110, 115] := by rw [show (Str.ofString "signs") = S [115, 105, 103, 110, 115] from by decide +kernel]
theorem k_marks : (Sum.inr (Str.ofString "marks") : Key) = tk [109, 97, 114, 107, 115] := by rw [show (Str.ofString "marks") = S [109, 97, 114, 107, 115] from by decide +kernel]
theorem k_first : (Sum.inr (Str.ofString "first") : Key) = tk [102, 105, 114, 115, 116] := by rw [show (Str.ofString "first") = S [102, 105, 114, 115, 116] from by decide +kernel]
theorem k_leads : (Sum.inr (Str.ofString "leads") : Key) = tk [108, 101, 97, 100, 115] := by rw [show (Str.ofString "leads") = S [108, 101, 97, 100, 115] from by decide +kernel]
def tdK (sg : List Nat) (pm : Addr) (f : List Nat) (pl : Addr) : List (Key × V) := [(.inr "signs", .str (S sg)), (.inr "marks", .ref pm), (.inr "first", .str (S f)), (.inr "leads", .ref pl)]
def leK (ms : List (List Nat)) (ad : List Nat → Addr) : List (Key × V) := ms.map fun m => (tk m, .ref (ad m))
def laK (sg : List Nat) (t : Nat → List Nat) : List (Key × V) := sg.map fun c => (tk [c], .str (S (t c)))
structure Told (H : Hp) (a : Addr) (sg : List Nat) (ms : List (List Nat)) (f : List Nat) (tg : List Nat → Nat → List Nat) (pm pl : Addr) (ad : List Nat → Addr) : Prop where
  ha : H a = some (.dK (tdK sg pm f pl))
  hpm : H pm = some (.lst (txs ms))
  hpl : H pl = some (.dK (leK ms ad))
  had : ∀ m ∈ ms, H (ad m) = some (.dK (laK sg (tg m)))
abbrev s_drawn : Stmt := top 52
abbrev n_drawn : List Str := ["box", "signs", "most", "marks", "leads", "mark", "sign"]
theorem sc_drawn : FnScope n_drawn ["box", "signs", "most"] (fnScope s_drawn) := fnScope_by (by decide +kernel)
def spDrawn : Sp := fun vs H Q _ => ∃ (b : Addr) (sg : List Nat) (most : Nat), vs = [.ref b, .str (S sg), .int most] ∧ Sg sg ∧ 1 ≤ most ∧ most ≤ 7 ∧ BoxAt b H ∧
  ∀ (a : Addr) (ms : List (List Nat)) (f : List Nat) (tg : List Nat → Nat → List Nat) (pm pl : Addr) (ad : List Nat → Addr) (H' : Hp), Mch sg ms f tg most → Bx b H H' → H a = none → H pm = none → H pl = none → (∀ m ∈ ms, H (ad m) = none) → Told H' a sg ms f tg pm pl ad → Q (.ref a) H'
theorem ok_drawn (T : BT mg) (c_take : Cal P w K mg base 1 "_law_take" spTake []) (c_pick : Cal P w K mg base 2 "_law_pick" (spPick K) []) (c_mixed : Cal P w K mg base 2 "_law_mixed" (spMixed K) []) {f : Addr} {fd : FuncData} (F : Def K mg "_law_drawn" s_drawn f fd) (b : Binds K fd ["box", "signs", "most"] []) : Cal P w K mg base 3 "_law_drawn" spDrawn [] := by
  refine cal0 F b .nil sc_drawn (fun vs H Q E h => ?_) (fun cdv A outer s H vs Q E hr h => ?_)
  · obtain ⟨b, sg, most, rfl, _⟩ := h; rfl
  · obtain ⟨b, sg, most, rfl, hsg, hm1, hm7, hb, k⟩ := h
    refine ⟨_, (pss_cons (ps_set (i := 3) sc_drawn.nd rfl (.inr rfl) (pe_slice sl_list (pe_c c_mixed hr (by first | decide | omega) (by rfl) (pa_cons (pv 0) (pa_cons (pe_lst (pa_cons pe_str (pa_cons pe_str (pa_cons pe_str (pa_cons pe_str (pa_cons pe_str (pa_cons pe_str (pa_cons pe_str (pa_cons pe_str pa_nil))))))))) pa_nil))) po_none (po_some (pe_op op_add pe_int (pe_c c_take hr (by first | decide | omega) (by rfl) (pa_cons (pv 0) (pa_cons (pv 2) pa_nil)))))))
      (pss_cons (ps_set (i := 4) sc_drawn.nd rfl (.inl rfl) pe_dnewK)
      (pss_cons (ps_for PassesOwn.never rfl (pi_list (pv 3)) (pg_name (i := 5) sc_drawn.nd rfl (.inl rfl)) 
        (pss_one (ps_dput (hu_of hr) (pv 4) (pv 5) (pe_callTy (call_dictP rfl) (by rfl) T.m_dict PyProof.Rows.boot_dict (pa_cons (pe_lc (own := [("sign", 6)]) rfl sc_drawn.nd (pi_str (pv 1)) (blkOk_by (N := n_drawn) (sc := fnScope s_drawn) (by decide +kernel)) (fun _ _ _ _ _ => (pg_name (i := 6) sc_drawn.nd rfl (.inl rfl))) (fun _ _ _ _ _ => pts_nil) (fun _ _ _ _ _ => (pe_tup (pa_cons (pv 6) (pa_cons (pe_c c_pick hr (by first | decide | omega) (by rfl) (pa_cons (pv 0) (pa_cons (pv 3) pa_nil))) pa_nil))))) pa_nil)) rfl)
        ))
      (pss_one (ps_ret (pe_disp (pps_cons pe_str (pv 1) (pps_cons pe_str (pv 3) (pps_cons pe_str (pe_c c_pick hr (by first | decide | omega) (by rfl) (pa_cons (pv 0) (pa_cons (pv 3) pa_nil))) (pps_cons pe_str (pv 4) pps_nil)))) rfl rfl (by decide) (by decide)))
      )))), ?_⟩
    walk_at "s"
    refine ⟨by decide, fun q hq => ?_⟩
    have hqb := box_ne hb hq
    have hB0 : Bx b H (upd H q (.lst [.str "no", .str "yes", .str "ma", .str "mb", .str "even", .str "seen", .str "zz", .str "ready"])) := Bx.put (bk_same (Same.refl H) hb) hb hq
    refine ⟨b, q, nm8, rfl, hB0.2, hqb, SqL.of (by rw [upd_same, s_no, s_yes, s_ma, s_mb, s_even, s_seen, s_zz, s_ready]; rfl), nm8_small, by decide, fun ys r H2 hys hr hB1 hr2 => ?_⟩
    have hB2 := hB0.trans hB1
    have hrb : r ≠ b := box_ne hB0.2 hr
    refine ⟨_, rfl, _, rfl, b, (most : Int), rfl, hB2.2, by omega, by omega, fun d H3 d0 d1 hB3 => ?_⟩
    obtain ⟨n, rfl⟩ := Int.eq_ofNat_of_zero_le d0
    have hr3 := hB3.1 _ _ hrb hr2
    refine ⟨_, _, rfl, rfl, _, rfl, r, _, rfl, SqL.of hr3, fun pm hpm => ?_⟩
    rw [show (1 : Int) + (n : Int) = ((1 + n : Nat) : Int) by omega, cut_to]
    have hB4 := hB2.trans hB3
    have hB5 : Bx b H (upd H3 pm (.lst (txs (ys.take (1 + n))))) := Bx.put hB4 hb (hB4.free hpm)
    have hpmb : pm ≠ b := box_ne hB4.2 hpm
    have hpm0 : H pm = none := hB4.free hpm
    have hms : Mks (ys.take (1 + n)) most := by
      have hl8 : ys.length = 8 := hys.length_eq
      refine ⟨(hys.nodup_iff.mpr (by decide)).sublist (List.take_sublist _ _), ?_, ?_, fun m hm => hys.subset (List.mem_of_mem_take hm)⟩
      · rw [List.length_take]; omega
      · rw [List.length_take]; omega
    generalize ys.take (1 + n) = ms at hms hB5 ⊢
    refine fun pl hpl => ?_
    have hB6 : Bx b H (upd (upd H3 pm (.lst (txs ms))) pl (.dK [])) := Bx.put hB5 hb (hB5.free hpl)
    have hplb : pl ≠ b := box_ne hB5.2 hpl
    have hpl0 : H pl = none := hB5.free hpl
    have hpmpl : pm ≠ pl := fun e => by rw [← e, upd_same] at hpl; cases hpl
    refine ⟨_, rfl, _, rfl, ⟨_, SqL.of (by rw [upd_ne hpmpl, upd_same])⟩, for_it (walk_list (K := K) (a := pm) (xs := txs ms)) (fun i σ H' => ∃ (ad : List Nat → Addr) (tg : List Nat → Nat → List Nat) (s5 s6 : Option V), σ = [some (.ref b), some (.str (S sg)), some (.int most), some (.ref pm), some (.ref pl), s5, s6] ∧ Bx b H H' ∧ H' pm = some (.lst (txs ms)) ∧
        H' pl = some (.dK (leK (ms.take i) ad)) ∧ (∀ m ∈ ms.take i, H (ad m) = none ∧ ad m ≠ pl ∧ H' (ad m) = some (.dK (laK sg (tg m)))) ∧ ∀ m ∈ ms.take i, ∀ c ∈ sg, tg m c ∈ ms)
      ⟨fun _ => 0, fun _ _ => [], _, _, rfl, hB6, by rw [upd_ne hpmpl, upd_same], upd_same, (fun _ h => nomatch h), (fun _ h => nomatch h)⟩ (fun i σ H' _ ⟨_, _, _, _, _, _, h, _⟩ => SqL.of h) ?_ ?_⟩
    · rintro i x σ H4 H4' hi ⟨ad, tg, s5, s6, rfl, hB7, hpm7, hpl7, had, htg⟩ ⟨rfl, hx⟩
      obtain ⟨m, hm, rfl⟩ := txs_get hx
      have hmm : m ∈ ms := List.mem_of_getElem? hm
      refine ⟨_, rfl, _, rfl, fun D hD => ?_⟩
      refine lc_keepH (keep_bk hB7.2) walk_str hD (by show sg.length < sizeLine; exact small1000 (by have := hsg.2.2.1; omega)) (fun j y H => ∃ (t : Addr) (c : Nat) (v : List Nat), y = .ref t ∧ sg[j]? = some c ∧ v ∈ ms ∧ H t = some (.tup [.str (S [c]), .str (S v)])) (fun _ _ => trivial)
        (fun _ _ H5 H6 r r2 ⟨t, c, v, e, hc, hv, ht⟩ => ⟨t, c, v, e, hc, hv, r2.1 _ _ (tup_ne_box r.2 ht) ht⟩) (fun _ _ H5 acc o _ hDa ⟨t, c, v, e, hc, hv, ht⟩ => ⟨t, c, v, e, hc, hv, by rw [upd_ne (ne_of ht hDa (by intro h; cases h))]; exact ht⟩) (fun j x H5 H6 acc R hj r hDa hy hR => ?_) (fun ys H5 hly hg r hDs => ?_)
      · obtain ⟨rfl, c, hc, rfl⟩ := hy
        have hc' : sg[j]? = some c := by simpa [S] using hc
        refine ⟨rfl, ?_⟩
        have hpm6 := r.1 _ _ hpmb hpm7
        refine ⟨_, rfl, _, rfl, _, rfl, b, pm, txs ms, rfl, r.2, hpmb, SqL.of hpm6, by rw [txs_len]; exact hms.2.1, by rw [txs_len]; have := hms.2.2.1; omega, fun v H7 hv hB8 => ?_⟩
        unfold txs at hv
        obtain ⟨l, hl, rfl⟩ := List.mem_map.mp hv
        refine ⟨(by show 2 ≤ sizeLine; decide), fun t ht => ?_⟩
        exact hR _ _ (Bx.put hB8 r.2 (hB8.free ht)) ⟨t, c, l, rfl, hc', hl, upd_same⟩
      have hly2 : ys.length = sg.length := hly.trans (by simp [S])
      have h2 : ∀ (j : Nat) (c : Nat), sg[j]? = some c → ∃ v : Addr × List Nat, ys[j]? = some (.ref v.1) ∧ v.2 ∈ ms ∧ H5 v.1 = some (.tup [.str (S [c]), .str (S v.2)]) := fun j c hc => by
        have hj : j < ys.length := by rw [hly2]; exact (List.getElem?_eq_some_iff.mp hc).1
        obtain ⟨t, c', v, e, hc', hv, ht⟩ := hg j _ (List.getElem?_eq_getElem hj)
        rw [hc] at hc'
        cases hc'
        exact ⟨(t, v), by rw [List.getElem?_eq_getElem hj, e], hv, ht⟩
      have hsn : sg.Nodup := hsg.1.imp fun h => by omega
      obtain ⟨g, hg2⟩ := fun_of hsn h2
      have eys : ys = (sg.map fun c => (g c).1).map V.ref := by
        rw [List.map_map]
        exact list_map hly2 fun j y c e1 e2 => by have := (hg2 j c e2).1; rw [e1] at this; exact Option.some.inj this
      refine ⟨D, sg.map fun c => (g c).1, laK sg fun c => (g c).2, rfl, SqL.of (by rw [← eys]; exact hDs), paired_map fun c hc => ?_, fun dd hdd => ?_⟩
      · obtain ⟨j, hj⟩ := List.getElem?_of_mem hc
        exact .inl (.inl (hg2 j c hj).2.2)
      have emg : mergeK [] (laK sg fun c => (g c).2) = laK sg fun c => (g c).2 := merge_nil (nodup_keys (key := fun c => tk [c]) (fun a b h => (List.cons.inj (tk_inj h)).1) hsn)
      rw [emg]
      have hpl8 : upd H5 dd (.dK (laK sg fun c => (g c).2)) pl = some (.dK (leK (ms.take i) ad)) := by
        have := r.1 _ _ hplb hpl7
        rw [upd_ne (ne_of_none this hdd)]; exact this
      have hB8 : Bx b H H5 := hB7.trans r
      have hB9 : Bx b H (upd H5 dd (.dK (laK sg fun c => (g c).2))) := Bx.put hB8 hb (hB8.free hdd)
      refine ⟨_, rfl, _, rfl, pl, _, rfl, DPut.k (k := tk m) hpl8 ?_, ?_⟩
      · unfold leK; rw [List.length_map, List.length_take]; exact small1000 (by have := hms.2.2.1; omega)
      have hnew : putK (leK (ms.take i) ad) (tk m) (.ref dd) = leK (ms.take i) ad ++ [(tk m, .ref dd)] := putK_new _ (valV_none fun p hp => by
        unfold leK at hp
        obtain ⟨m', hm', rfl⟩ := List.mem_map.mp hp
        exact fun e => not_in_take hms.1 hm (tk_inj e ▸ hm'))
      rw [hnew]
      have hddpl : dd ≠ pl := fun e => by rw [e] at hdd; have := r.1 _ _ hplb hpl7; rw [hdd] at this; cases this
      have hne : ∀ m' ∈ ms.take i, m' ≠ m := fun m' h e => not_in_take hms.1 hm (e ▸ h)
      refine ⟨fun x => if x = m then dd else ad x, fun x => if x = m then (fun c => (g c).2) else tg x, _, _, rfl, ?_, ?_, ?_, ?_, ?_⟩
      · exact Bx.put hB9 hb hpl0
      · have := r.1 _ _ hpmb hpm7
        rw [upd_ne hpmpl, upd_ne (ne_of_none this hdd)]; exact this
      · rw [upd_same, take_more hm]
        have : leK (ms.take i ++ [m]) (fun x => if x = m then dd else ad x) = leK (ms.take i) ad ++ [(tk m, .ref dd)] := by
          unfold leK
          rw [List.map_append]
          congr 1
          · exact List.map_congr_left fun m' h => by dsimp only; rw [if_neg (hne m' h)]
          · show [(tk m, V.ref (if m = m then dd else ad m))] = _
            rw [if_pos rfl]
        rw [this]
      · intro m' hm'
        rw [take_more hm] at hm'
        rcases List.mem_append.mp hm' with h | h
        · obtain ⟨a1, a2, a3⟩ := had m' h
          have a4 := r.1 _ _ (dict_ne_box hB7.2 a3) a3
          dsimp only
          rw [if_neg (hne m' h), if_neg (hne m' h)]
          exact ⟨a1, a2, by rw [upd_ne a2, upd_ne (ne_of_none a4 hdd)]; exact a4⟩
        · rw [List.mem_singleton] at h
          subst h
          dsimp only
          rw [if_pos rfl, if_pos rfl]
          exact ⟨hB8.free hdd, hddpl, by rw [upd_ne hddpl, upd_same]⟩
      · intro m' hm' c hc
        rw [take_more hm] at hm'
        rcases List.mem_append.mp hm' with h | h
        · dsimp only
          rw [if_neg (hne m' h)]
          exact htg m' h c hc
        · rw [List.mem_singleton] at h
          subst h
          dsimp only
          rw [if_pos rfl]
          obtain ⟨j, hj⟩ := List.getElem?_of_mem hc
          exact (hg2 j c hj).2.1
    · rintro σ H4 ⟨ad, tg, s5, s6, rfl, hB7, hpm7, hpl7, had, htg⟩
      rw [txs_len, List.take_length] at hpl7 had htg
      refine fun a ha => ?_
      have hB8 : Bx b H (upd H4 a (.dK [])) := Bx.put hB7 hb (hB7.free ha)
      have hapm : pm ≠ a := ne_of_none hpm7 ha
      have hapl : pl ≠ a := ne_of_none hpl7 ha
      have hab : a ≠ b := box_ne hB7.2 ha
      refine ⟨_, rfl, _, rfl, _, rfl, _, rfl, b, pm, txs ms, rfl, hB8.2, hpmb, SqL.of (by rw [upd_ne hapm]; exact hpm7), by rw [txs_len]; exact hms.2.1, by rw [txs_len]; have := hms.2.2.1; omega, fun v H5 hv hB9 => ?_⟩
      unfold txs at hv
      obtain ⟨l, hl, rfl⟩ := List.mem_map.mp hv
      refine ⟨_, rfl, hB9.1 _ _ hab upd_same, tdK sg pm l pl, rfl, (by show 4 ≤ 15; decide), ?_⟩
      rw [merge_nil (by show ([.inr "signs", .inr "marks", .inr "first", .inr "leads"] : List Key).Nodup; decide +kernel)]
      refine k a ms l tg pm pl ad _ ⟨hsg, hms, hl, htg⟩ (Bx.put (hB8.trans hB9) hb (hB7.free ha)) (hB7.free ha) hpm0 hpl0 (fun m hm => (had m hm).1) ⟨upd_same, ?_, ?_, fun m hm => ?_⟩
      · rw [upd_ne hapm]; exact hB9.1 _ _ hpmb (by rw [upd_ne hapm]; exact hpm7)
      · rw [upd_ne hapl]; exact hB9.1 _ _ hplb (by rw [upd_ne hapl]; exact hpl7)
      · obtain ⟨a1, a2, a3⟩ := had m hm
        have hn : ad m ≠ a := ne_of_none a3 ha
        rw [upd_ne hn]
        exact hB9.1 _ _ (dict_ne_box hB7.2 a3) (by rw [upd_ne hn]; exact a3)
end
end Toy
set_option maxHeartbeats 1000000
namespace Toy
open PySem L2 C8 SX LX
local macro_rules | `(tactic| walk_at "c") => `(tactic| refine And.intro (by first | (show (0 : Int) < _; omega) | exact Or.inr ⟨by decide, by decide⟩ | exact Or.inl ⟨by decide, by decide⟩ | (exact ⟨by omega, by omega⟩)) ?_)
local macro_rules | `(tactic| walk_at "s1") => `(tactic| first | refine ⟨_, rfl, ?_⟩ | refine ⟨_, _, rfl, rfl, ?_⟩ | refine .inl ⟨_, rfl, ?_⟩ | walk_at "c")
local macro_rules | `(tactic| walk_at "s") => `(tactic| repeat (walk_at "s1"))
section
variable {P : Program} {w : World} {K : PySem.W.Frag} {mg : Str → Option Value} {base : Heap}
section
variable {H : Hp} {a : Addr} {sg : List Nat} {ms : List (List Nat)} {f : List Nat} {tg : List Nat → Nat → List Nat} {pm pl : Addr} {ad : List Nat → Addr}
theorem Told.signs (t : Told H a sg ms f tg pm pl ad) : DGet H a (.str (Str.ofString "signs")) (some (.str (S sg))) := .inl ⟨_, .inr "signs", .inl t.ha, rfl, by unfold tdK; rw [valV_pos rfl]⟩
theorem ne_keys {x y : Str} (h : ¬ x = y) : ¬ (Sum.inr x : Key) = Sum.inr y := fun e => h (Sum.inr.inj e)
theorem Told.marks (t : Told H a sg ms f tg pm pl ad) : DGet H a (.str (Str.ofString "marks")) (some (.ref pm)) := .inl ⟨_, .inr "marks", .inl t.ha, rfl, by
  unfold tdK; rw [valV_neg (ne_keys (by decide +kernel)), valV_pos rfl]⟩
theorem Told.first (t : Told H a sg ms f tg pm pl ad) : DGet H a (.str (Str.ofString "first")) (some (.str (S f))) := .inl ⟨_, .inr "first", .inl t.ha, rfl, by
  unfold tdK; rw [valV_neg (ne_keys (by decide +kernel)), valV_neg (ne_keys (by decide +kernel)), valV_pos rfl]⟩
theorem Told.leads (t : Told H a sg ms f tg pm pl ad) : DGet H a (.str (Str.ofString "leads")) (some (.ref pl)) := .inl ⟨_, .inr "leads", .inl t.ha, rfl, by
  unfold tdK; rw [valV_neg (ne_keys (by decide +kernel)), valV_neg (ne_keys (by decide +kernel)), valV_neg (ne_keys (by decide +kernel)), valV_pos rfl]⟩
theorem Told.mark (t : Told H a sg ms f tg pm pl ad) {m : List Nat} (h : m ∈ ms) : DGet H pl (.str (S m)) (some (.ref (ad m))) := .inl ⟨_, tk m, .inl t.hpl, rfl, (valV_map' (key := tk) (f := fun m => V.ref (ad m)) (fun _ _ => tk_inj) h).symm⟩
theorem Told.at_ (t : Told H a sg ms f tg pm pl ad) {m : List Nat} (h : m ∈ ms) {c : Nat} (hc : c ∈ sg) : DGet H (ad m) (.str (S [c])) (some (.str (S (tg m c)))) :=
  .inl ⟨_, tk [c], .inl (t.had m h), rfl, (valV_map' (key := fun c => tk [c]) (f := fun c => V.str (S (tg m c))) (fun _ _ e => (List.cons.inj (tk_inj e)).1) hc).symm⟩
theorem Told.same {H' : Hp} (t : Told H a sg ms f tg pm pl ad) (s : Same H H') : Told H' a sg ms f tg pm pl ad := ⟨s _ _ t.ha, s _ _ t.hpm, s _ _ t.hpl, fun m h => s _ _ (t.had m h)⟩
theorem Told.bx {H' : Hp} {b : Addr} (t : Told H a sg ms f tg pm pl ad) (s : Bx b H H') (hb : BoxAt b H) (n : pm ≠ b) : Told H' a sg ms f tg pm pl ad :=
  ⟨s.1 _ _ (dict_ne_box hb t.ha) t.ha, s.1 _ _ n t.hpm, s.1 _ _ (dict_ne_box hb t.hpl) t.hpl, fun m h => s.1 _ _ (dict_ne_box hb (t.had m h)) (t.had m h)⟩
end
def Ov (sg l : List Nat) : Prop := ∀ c ∈ l, c ∈ sg
def ledTo (tg : List Nat → Nat → List Nat) (m : List Nat) (row : List Nat) : List Nat := row.foldl tg m
theorem led_in {sg : List Nat} {ms : List (List Nat)} {tg : List Nat → Nat → List Nat} (htg : ∀ m ∈ ms, ∀ c ∈ sg, tg m c ∈ ms) : ∀ {row : List Nat} {m : List Nat}, Ov sg row → m ∈ ms → ledTo tg m row ∈ ms
  | [], _, _, h => h
  | c :: row, m, ho, h => led_in htg (row := row) (fun d hd => ho d (List.mem_cons_of_mem _ hd)) (htg m h c (ho c List.mem_cons_self))
abbrev s_led : Stmt := top 54
abbrev n_led : List Str := ["told", "mark", "row", "sign"]
theorem sc_led : FnScope n_led ["told", "mark", "row"] (fnScope s_led) := fnScope_by (by decide +kernel)
def spLed : Sp := fun vs H Q _ => ∃ (a : Addr) (sg : List Nat) (ms : List (List Nat)) (f : List Nat) (tg : List Nat → Nat → List Nat) (pm pl : Addr) (ad : List Nat → Addr) (m row : List Nat), vs = [.ref a, .str (S m), .str (S row)] ∧
  Told H a sg ms f tg pm pl ad ∧ (∀ m ∈ ms, ∀ c ∈ sg, tg m c ∈ ms) ∧ m ∈ ms ∧ Ov sg row ∧ Q (.str (S (ledTo tg m row))) H
theorem ok_led (T : BT mg) {f : Addr} {fd : FuncData} (F : Def K mg "_law_led" s_led f fd) (b : Binds K fd ["told", "mark", "row"] []) : Cal P w K mg base 1 "_law_led" spLed [] := by
  refine cal0 F b .nil sc_led (fun vs H Q E h => ?_) (fun cdv A outer s H vs Q E hr h => ?_)
  · obtain ⟨a, sg, ms, f, tg, pm, pl, ad, m, row, rfl, _⟩ := h; rfl
  · obtain ⟨a, sg, ms, f, tg, pm, pl, ad, m, row, rfl, t, htg, hm, ho, k⟩ := h
    refine ⟨_, (pss_cons (ps_for PassesOwn.never rfl (pi_str (pv 2)) (pg_name (i := 3) sc_led.nd rfl (.inl rfl)) 
        (pss_one (ps_set (i := 1) sc_led.nd rfl (.inl rfl) (pe_dget (hu_of hr) (pe_dget (hu_of hr) (pe_dget (hu_of hr) (pv 0) pe_str (fun _ _ => rfl)) (pv 1) (fun _ _ => rfl)) (pv 3) (fun _ _ => rfl)))
        ))
      (pss_one (ps_ret (pv 1))
      )), ?_⟩
    refine ⟨_, rfl, _, rfl, for_it walk_str (fun i σ H' => ∃ s3 : Option V, σ = [some (.ref a), some (.str (S (ledTo tg m (row.take i)))), some (.str (S row)), s3] ∧ H' = H) ⟨none, rfl, rfl⟩ (fun _ _ _ _ _ => trivial) ?_ ?_⟩
    · rintro i x σ H1 H1' hi ⟨s3, rfl, rfl⟩ ⟨rfl, c, hc, rfl⟩
      have hc' : row[i]? = some c := by simpa [S] using hc
      have hmi : ledTo tg m (row.take i) ∈ ms := led_in htg (fun d hd => ho d (List.mem_of_mem_take hd)) hm
      refine ⟨_, rfl, _, _, rfl, t.leads, ?_⟩
      refine ⟨_, rfl, _, _, rfl, t.mark hmi, ?_⟩
      refine ⟨_, rfl, _, _, rfl, t.at_ hmi (ho c (List.mem_of_getElem? hc')), ?_⟩
      have e1 : ledTo tg m (row.take (i + 1)) = tg (ledTo tg m (row.take i)) c := by
        rw [take_more hc']
        unfold ledTo
        rw [List.foldl_append]
        rfl
      exact ⟨_, by rw [e1]; rfl, rfl⟩
    · rintro σ H1 ⟨s3, rfl, rfl⟩
      refine ⟨_, rfl, ?_⟩
      have e : row.take (S row).cps.size = row := by rw [show (S row).cps.size = row.length by simp [S], List.take_length]
      show Q (V.str (S (ledTo tg m (List.take (S row).cps.size row)))) H1
      rw [e]
      exact k
def level (sg : List Nat) : Nat → List (List Nat)
  | 0 => [[]]
  | n + 1 => (level sg n).flatMap fun r => sg.map fun c => r ++ [c]
def upto (sg : List Nat) : Nat → List (List Nat)
  | 0 => [[]]
  | n + 1 => upto sg n ++ level sg (n + 1)
theorem level_len {sg : List Nat} (h : sg.length ≤ 3) : ∀ n, (level sg n).length ≤ 3 ^ n
  | 0 => Nat.le_refl _
  | n + 1 => by
    have ih := level_len h n
    have e : ∀ l : List (List Nat), (l.flatMap fun r => sg.map fun c => r ++ [c]).length = l.length * sg.length := by
      intro l
      induction l with
      | nil => simp
      | cons r l ih => rw [List.flatMap_cons, List.length_append, ih, List.length_map, List.length_cons, Nat.add_mul]; omega
    show ((level sg n).flatMap fun r => sg.map fun c => r ++ [c]).length ≤ _
    rw [e, Nat.pow_succ]
    exact Nat.mul_le_mul ih h
theorem upto_len {sg : List Nat} (h : sg.length ≤ 3) : ∀ n, (upto sg n).length ≤ 2 * 3 ^ n
  | 0 => by show 1 ≤ 2; decide
  | n + 1 => by
    have ih := upto_len h n
    have := level_len h (n + 1)
    show (upto sg n ++ level sg (n + 1)).length ≤ _
    rw [List.length_append]
    rw [Nat.pow_succ] at this ⊢
    omega
theorem level_row {sg : List Nat} : ∀ {n : Nat} {r : List Nat}, r ∈ level sg n → r.length = n ∧ Ov sg r
  | 0, r, h => by
    rw [List.mem_singleton.mp h]
    exact ⟨rfl, fun _ h => nomatch h⟩
  | n + 1, r, h => by
    obtain ⟨q, hq, hr⟩ := List.mem_flatMap.mp h
    obtain ⟨c, hc, rfl⟩ := List.mem_map.mp hr
    obtain ⟨i1, i2⟩ := level_row hq
    refine ⟨by rw [List.length_append, i1]; rfl, fun d hd => ?_⟩
    rcases List.mem_append.mp hd with h | h
    · exact i2 d h
    · rw [List.mem_singleton.mp h]; exact hc
theorem upto_row {sg : List Nat} : ∀ {n : Nat} {r : List Nat}, r ∈ upto sg n → r.length ≤ n ∧ Ov sg r
  | 0, r, h => by
    rw [List.mem_singleton.mp h]
    exact ⟨Nat.le_refl _, fun _ h => nomatch h⟩
  | n + 1, r, h => by
    rcases List.mem_append.mp h with h | h
    · obtain ⟨a, b⟩ := upto_row h
      exact ⟨Nat.le_succ_of_le a, b⟩
    · obtain ⟨a, b⟩ := level_row h
      exact ⟨Nat.le_of_eq a, b⟩
abbrev s_rows : Stmt := top 55
abbrev n_rows : List Str := ["signs", "most", "found", "last", "turn", "longer", "row", "sign"]
theorem sc_rows : FnScope n_rows ["signs", "most"] (fnScope s_rows) := fnScope_by (by decide +kernel)
def spRows : Sp := fun vs H Q _ => ∃ (sg : List Nat) (n : Nat), vs = [.str (S sg), .int n] ∧ sg.length ≤ 3 ∧ n ≤ 5 ∧ ∀ (p : Addr) (H' : Hp), Same H H' → H p = none → H' p = some (.lst (txs (upto sg n))) → Q (.ref p) H'
theorem ok_rows (T : BT mg) {f : Addr} {fd : FuncData} (F : Def K mg "_law_rows" s_rows f fd) (b : Binds K fd ["signs", "most"] []) : Cal P w K mg base 1 "_law_rows" spRows [] := by
  refine cal0 F b .nil sc_rows (fun vs H Q E h => ?_) (fun cdv A outer s H vs Q E hr h => ?_)
  · obtain ⟨sg, n, rfl, _⟩ := h; rfl
  · obtain ⟨sg, n, rfl, hl3, hn5, k⟩ := h
    refine ⟨_, (pss_cons (ps_par (i := 2) (j := 3) rfl sc_rows.nd rfl rfl (by decide) rfl rfl (pa_cons (pe_lst (pa_cons pe_str pa_nil)) (pa_cons (pe_lst (pa_cons pe_str pa_nil)) pa_nil)) rfl)
      (pss_cons (ps_for PassesOwn.never rfl (pi_range1 (by rfl) T.m_range (pa_cons (pv 1) pa_nil)) (pg_name (i := 4) sc_rows.nd rfl (.inl rfl)) 
        (pss_cons (ps_set (i := 5) sc_rows.nd rfl (.inl rfl) (pe_lst pa_nil))
        (pss_cons (ps_for PassesOwn.never rfl (pi_list (pv 3)) (pg_name (i := 6) sc_rows.nd rfl (.inr rfl)) 
          (pss_one (ps_expr (pe_bm PySem.F.plainAttrs_list PySem.F.slot_list_extend PySem.F.type_list_extend mt_extend (pv 5) (pa_cons (pe_lc (own := [("sign", 7)]) rfl sc_rows.nd (pi_str (pv 0)) (blkOk_by (N := n_rows) (sc := fnScope s_rows) (by decide +kernel)) (fun _ _ _ _ _ => (pg_name (i := 7) sc_rows.nd rfl (.inl rfl))) (fun _ _ _ _ _ => pts_nil) (fun _ _ _ _ _ => (pe_op op_add_str (pv 6) (pv 7)))) pa_nil)))
          ))
        (pss_one (ps_par (i := 2) (j := 3) rfl sc_rows.nd rfl rfl (by decide) rfl rfl (pa_cons (pe_op op_cat (pv 2) (pv 5)) (pa_cons (pv 5) pa_nil)) rfl)
        ))))
      (pss_one (ps_ret (pv 2))
      ))), ?_⟩
    refine ⟨by decide, fun p0 hp0 => ?_⟩
    refine ⟨by decide, fun q0 hq0 => ?_⟩
    have hpq : p0 ≠ q0 := fun e => by rw [← e, upd_same] at hq0; cases hq0
    have s0 : Same H (upd (upd H p0 (.lst [.str ""])) q0 (.lst [.str ""])) := sm_put' (sm_new hp0) hq0
    refine ⟨_, _, rfl, ?_⟩
    refine ⟨_, rfl, (n : Int), rfl, by omega, by omega, ?_⟩
    refine for_it (walk_range (lo := 0)) (fun i σ H' => ∃ (p q : Addr) (s4 s5 s6 s7 : Option V), σ = [some (.str (S sg)), some (.int n), some (.ref p), some (.ref q), s4, s5, s6, s7] ∧ Same H H' ∧ H p = none ∧ H' p = some (.lst (txs (upto sg i))) ∧ H' q = some (.lst (txs (level sg i))))
      ⟨p0, q0, _, _, _, _, rfl, s0, hp0, by rw [upd_ne hpq, upd_same, s_nil]; rfl, by rw [upd_same, s_nil]; rfl⟩ (fun _ _ _ _ _ => trivial) ?_ ?_
    · rintro i x σ H1 H1' hi ⟨p, q, s4, s5, s6, s7, rfl, s1, hp, hp1, hq1⟩ ⟨rfl, rfl⟩
      have hi5 : i < 5 := by have : (n : Int).toNat = n := Int.toNat_natCast n; omega
      have p3 : 3 ^ i ≤ 81 := Nat.le_trans (Nat.pow_le_pow_right (by decide) (show i ≤ 4 by omega)) (by decide)
      have hll := level_len hl3 i
      have hul := upto_len hl3 i
      refine ⟨Nat.zero_le _, fun g hg => ?_⟩
      have s2 : Same H1' (upd H1' g (.lst [])) := sm_new hg
      refine ⟨_, rfl, _, rfl, ⟨_, SqL.of (s2 _ _ hq1)⟩, for_it (walk_list (K := K) (a := q) (xs := txs (level sg i))) (fun j σ H' => ∃ (s6 s7 : Option V), σ = [some (.str (S sg)), some (.int n), some (.ref p), some (.ref q), some (.int (0 + (i : Int))), some (.ref g), s6, s7] ∧ Same H1' H' ∧
          H' g = some (.lst (txs (((level sg i).take j).flatMap fun r => sg.map fun c => r ++ [c]))))
        ⟨_, _, rfl, s2, upd_same⟩ (fun j σ H' _ ⟨_, _, _, s, _⟩ => SqL.of (s _ _ hq1)) ?_ ?_⟩
      · rintro j x σ H2 H2' hj ⟨s6, s7, rfl, s3, hg3⟩ ⟨rfl, hx⟩
        obtain ⟨r, hr, rfl⟩ := txs_get hx
        obtain ⟨r1, r2⟩ := level_row (List.mem_of_getElem? hr)
        refine ⟨_, rfl, .inl ⟨rfl, _, SqL.of hg3⟩, ?_⟩
        refine ⟨_, rfl, _, rfl, fun D hD => lc_keep keep_same walk_str hD (by show sg.length < sizeLine; exact small1000 (by omega)) (fun j y => ∀ c, sg[j]? = some c → y = .str (S (r ++ [c]))) (fun _ _ => trivial) (fun i x H3 H4 R hii r1 hy hR => ?_) (fun ys H3 hly hgd r3 hDs => ?_)⟩
        · obtain ⟨rfl, c, hc, rfl⟩ := hy
          have hc' : sg[i]? = some c := by simpa [S] using hc
          refine ⟨rfl, ?_⟩
          refine ⟨_, rfl, _, rfl, S r, S [c], rfl, rfl, by rw [S_len, S_len]; exact sz (m := 10) (by simp; omega) (by decide), ?_⟩
          exact hR _ _ (Same.refl _) fun c' h => by rw [hc'] at h; rw [← Option.some.inj h, S_cat]
        have eys : ys = txs (sg.map fun c => r ++ [c]) := by
          unfold txs; rw [List.map_map]
          exact list_map (hly.trans (by simp [S])) fun j y c e1 e2 => hgd j y e1 c e2
        subst eys
        have hg4 := r3 _ _ hg3
        have hgl : (txs (((level sg i).take j).flatMap fun r => sg.map fun c => r ++ [c])).length + (txs (sg.map fun c => r ++ [c])).length ≤ sizeLine := by
          have hsub : ((level sg i).take j ++ [r]).length ≤ (level sg i).length := by rw [← take_more hr, List.length_take]; omega
          have e : ∀ l : List (List Nat), (l.flatMap fun r => sg.map fun c => r ++ [c]).length ≤ l.length * 3 := by
            intro l
            induction l with
            | nil => simp
            | cons r l ih => rw [List.flatMap_cons, List.length_append, List.length_map, List.length_cons, Nat.add_mul]; omega
          have := e ((level sg i).take j)
          rw [List.length_append, List.length_singleton] at hsub
          rw [txs_len, txs_len, List.length_map]
          exact sz (m := 800) (by omega) (by decide)
        refine ⟨g, D, _, _, rfl, rfl, hg4, hDs, hgl, ?_⟩
        refine ⟨_, _, rfl, sm_put (s3.trans r3) hg, ?_⟩
        rw [upd_same, take_more hr, List.flatMap_append]
        unfold txs
        rw [List.map_append]
        simp
      · rintro σ H2 ⟨s6, s7, rfl, s3, hg3⟩
        rw [txs_len, List.take_length] at hg3
        have hg3' : H2 g = some (.lst (txs (level sg (i + 1)))) := hg3
        have hll' := level_len hl3 (i + 1)
        refine ⟨_, rfl, _, rfl, p, g, _, _, rfl, rfl, s3 _ _ hp1, hg3', by rw [txs_len, txs_len]; rw [Nat.pow_succ] at hll'; exact sz (m := 1000) (by omega) (by decide), fun p2 hp2 => ?_⟩
        have s4 : Same H2 (upd H2 p2 (.lst (txs (upto sg i) ++ txs (level sg (i + 1))))) := sm_new hp2
        refine ⟨_, rfl, _, _, rfl, ?_⟩
        refine ⟨p2, g, _, _, _, _, rfl, (s1.trans s3).trans s4, (s1.trans s3).free hp2, ?_, s4 _ _ hg3'⟩
        rw [upd_same]; unfold txs; rw [← List.map_append]; rfl
    · rintro σ H1 ⟨p, q, s4, s5, s6, s7, rfl, s1, hp, hp1, hq1⟩
      refine ⟨_, rfl, ?_⟩
      exact k p H1 s1 hp (by rw [hp1, Int.toNat_natCast])
end
end Toy
set_option maxHeartbeats 2000000
namespace LX
open PySem PySem.Spec PyProof.Rows L2 C8 SX
structure FnG (P : Program) (w : World) (K : PySem.W.Frag) (mg : Str → Option Value) (base : Heap) (k : Nat) (f : Addr) (fd : FuncData) (ps : List Str) (sp : Sp) : Prop where
  many : ∀ vs H Q E, sp vs H Q E → vs.length = ps.length
  goes : ∀ (A : Around) (ou : List Env) (t : Shared) (H : Hp) (gs : Args) (us : List Value) (vs : List V) (Q : VK) (E : XK), A.guards = some [] → Room k A → Env0 P w K mg base A ou t H → BindsTo t fd gs (ps.zip us) → Vals vs us →
    sp vs H Q E → codeAny (model P w) A (.call (.ref f) gs) (CR C8.CX0 ou P w H t Q E) t
theorem FnG.of {P : Program} {w : World} {K : PySem.W.Frag} {mg : Str → Option Value} {base : Heap} {k : Nat} {f : Addr} {fd : FuncData} {ps : List Str} {sp : Sp} (F : FnOk P w K mg base C8.CX0 k f fd ps sp) : FnG P w K mg base k f fd ps sp :=
  ⟨F.len, fun A ou t H gs us vs Q E _ => F.run A ou t H gs us vs Q E⟩
theorem fnG0 {P : Program} {w : World} {K : PySem.W.Frag} {mg : Str → Option Value} {base : Heap} {x ql : Str} {st : Stmt} {f : Addr} {fd : FuncData} {N ps : List Str} {k : Nat} {sp : Sp} (F : C8.Fun K x ql st f fd) (Sc : FnScope N ps (C8.fnScope st))
    (many : ∀ vs H Q E, sp vs H Q E → vs.length = ps.length)
    (h : ∀ (cd : Value) (A : Around) (ou : List Env) (t : Shared) (H : Hp) (vs : List V) (Q : VK) (E : XK), A.guards = some [] → Room k (A.deeper (envOfC ql (C8.fnScope st) t.heap.objs.size f cd)) → sp vs H Q E →
      ∃ r, PSs (cxOf C8.CX0 P w K mg base N ql (C8.fnScope st) f cd A ou t H E).nox (C8.fnBody st) r ∧ r { nx := fun _ H' => Q .non H', rt := Q } (L2.start N vs) H) : FnG P w K mg base (k + 1) f fd ps sp := by
  obtain ⟨oc, od, dV, kV, doc, pm, an, cd, ct, osl, rfl, at_, code⟩ := F.ex
  constructor
  · exact many
  intro A ou t H gs us vs Q E gd room e0 bound rel want
  have count := many _ _ _ _ want
  have old : ∀ (b : Addr) (o : Obj), base.get? b = some o → t.heap.get? b = some o := fun b o e => (e0.bs b o e).1
  have KT : K.In t.heap := e0.mod.kin.keeps old
  have kinds : ∀ y ∈ ps.zip us, (C8.fnScope st).names.lookup y.1 = some .local ∨ ((C8.fnScope st).names.lookup y.1 = some .cell ∧ ((cellsFrom (t.heap.objs.size + 1) (C8.fnScope st).names []).lookup y.1).isSome = true) := by
    intro y hy
    obtain ⟨n, v⟩ := y
    exact (Sc.par n (List.of_mem_zip hy).1).elim .inl fun q => .inr ⟨q, PySem.W.cellsFrom_some _ _ _ (.inl q)⟩
  refine codeAny_call_function room.depth (KT _ _ at_) rfl Sc.co Sc.gen rfl (PySem.W.codeRec_of KT code) (bound _ _ _ _ ?_)
  refine wpAny_newFunctionEnv_cells Sc.kind kinds fun en en_is t1 inside => ?_
  subst en_is
  refine ⟨(e0.mod.nolimit.keeps old).keeps inside.toInCall.keep, codeAny_func ?_⟩
  obtain ⟨r, body, read⟩ := h cd A ou t H vs Q E gd (room.deeper _) want
  have I0 := inv_start (CX := C8.CX0) (E := E) Sc room.hd e0 count rel inside
  refine wpAny_mono (body.nox.run [] t1 (L2.start N vs) H _ I0 read) (fun fl t' got => ?_) fun _ _ got => got
  cases fl with
  | ret u => exact let ⟨v, _, H', J, rv, q⟩ := got; ⟨v, H', J.os, J.bare, J.base, J.hok, rv, q⟩
  | next => exact let ⟨_, H', J, q⟩ := got; ⟨.non, H', J.os, J.bare, J.base, J.hok, rfl, q⟩
  | brk => exact let ⟨_, _, _, q⟩ := got; False.elim q
  | cont => exact let ⟨_, _, _, q⟩ := got; False.elim q
structure CalG (P : Program) (w : World) (K : PySem.W.Frag) (mg : Str → Option Value) (base : Heap) (k : Nat) (x : Str) (sp : Sp) : Prop where
  ex : ∃ (f : Addr) (fd : FuncData) (ps : List Str), FnG P w K mg base k f fd ps sp ∧ mg x = some (.ref f) ∧ PySem.W.keepIn K (.ref f) = true ∧ Binds K fd ps []
structure MetG (P : Program) (w : World) (K : PySem.W.Frag) (mg : Str → Option Value) (base : Heap) (k : Nat) (C : Addr) (m : Str) (sp : Sp) : Prop where
  ex : ∃ (f : Addr) (fd : FuncData) (ps : List Str), Cls K C ∧ Meth K C m f ∧ FnG P w K mg base k f fd ps sp ∧ Binds K fd ps []
section
variable {X : Cx} {k j : Nat} {f C : Addr} {fd : FuncData} {ps : List Str} {sp : Sp} {x m : Str} {p pos apos : Pos} {e o : Expr} {es : List Expr} {ta : TE} {t : TA}
theorem goesG {pins : List (Addr × Obj)} {σ : L2.St} {H : Hp} {s : Shared} {Q : VK} {us : List Value} {vs : List V} (F : FnG X.prog X.w X.K X.mg X.base k f fd ps sp) (gd : X.A.guards = some []) (room : Room k X.A) (bd : Binds X.K fd ps [])
    (I : Inv X pins σ H s) (rel : Vals vs us) (want : sp (vs ++ []) H Q C8.E0) : wpAny (model X.prog X.w) X.A (call (.ref f) us) (EP X pins σ Q) X.xe s := by
  rw [List.append_nil] at want
  have count : (us ++ []).length = ps.length := by rw [List.append_nil, ← rel.length]; exact F.many _ _ _ _ want
  have bs := bd s us I.kIn count
  rw [List.append_nil] at bs
  refine wpAny_call (codeAny_mono (F.goes X.A X.stack s H ⟨us, []⟩ us vs Q C8.E0 gd room I.env0 bs rel want) fun r t' got => ?_)
  match r, got with
  | .ok (.ret u), got => exact I.after got
theorem pe_cG (c : CalG X.prog X.w X.K X.mg X.base k x sp) (gd : X.A.guards = some []) (room : Room j X.A) (hk : k ≤ j) (hg : Gl X x) (ha : PA X (e :: es) t) (hdb : (x == ("__debug__" : Str)) = false := by decide)
    (he : starEach (e :: es) X.env = (false, eval e X.env) :: starEach es X.env := by rfl) (hpl : (backTo pos (starEach es X.env)).any (·.1) = false := by rfl) : PE X (.Call (.Name x p) (e :: es) [] pos) (tCall sp [] C8.E0 t) := by
  obtain ⟨f, fd, ps, F, named, kept, bd⟩ := c.ex
  constructor
  intro pins s σ H Q I want
  refine wpAny_Call_Name_kw (ld_glob I hg named ?_ hdb)
  refine PySem.W.callWith_K (h₀ := X.base) I.ok.mod.kin kept (thn (ha.run pos pins s σ H _ I want) ?_) he hpl
  rintro us s1 ⟨vs, H1, I1, rel, q⟩
  exact ⟨I1.kIn, goesG F gd (room.mono hk) bd I1 rel q⟩
theorem call_reprG (gd : X.A.guards = some []) (room : Room j X.A) : CallR X (.builtin "repr") (fun xs H Q => ∃ (a : Addr) (d : PyData), xs = [.ref a] ∧ Dp X.K H (.ref a) d ∧ d.showable = true ∧ d.hasDict = false ∧ d.depth ≤ 60 ∧ d.shown.length ≤ sizeLine ∧ Q (.str d.shown) H) := by
  intro pins s σ H xs us Q I rel want
  obtain ⟨a, d, rfl, hd, sh, nd, dep, sz, q⟩ := want
  obtain ⟨u, rfl, ru⟩ := vals1 rel
  obtain rfl : u = Value.ref a := ru
  obtain ⟨as, rd⟩ := Dp.reads I d (.ref a) (.ref a) hd rfl
  have un := room.un
  refine repr_of_reads' rd sh (PyData.noDict_hsm nd) gd (by omega) (fun _ _ z => z) (fun h' u tk kept => ?_) sz
  exact ⟨.str d.shown, H, I.kept kept, ⟨_, rfl⟩, q⟩
end
abbrev Done (s s' : Shared) (r : Result) : Prop := r = .ok (.ret (.bool true)) ∧ OldK s.heap s'.heap ∧ s'.os = s.os ∧ AllBare s'.gens
section
variable {P : Program} {w : World} {K : PySem.W.Frag} {mg mb : Str → Option Value} {k : Nat} {fa a : Addr} {fd : FuncData} {x : Str} {sp : Sp} {s : Shared} {vs : List Value} {ns : List Int}
theorem lawG_at {H : Hp} (KX : K.In s.heap) (hns : s.heap.Ns mainGlobals mg) (hb : s.heap.Ns builtinsNs mb) (hbb : ∀ x : Str, x ≠ "__name__" → mb x = bootBuiltins x) (lim : s.heap.NoLimit) (gens : s.gens = #[])
    (ha : s.heap.get? a = some { cls := .type "list", data := .seq vs.toArray }) (room : Room k callerA) (F : ∀ base : Heap, K.In base → base.Ns mainGlobals mg → FnG P w K mg base k fa fd [x] sp)
    (bd : ∀ (s : Shared) (u : Value), BindsTo s fd ⟨[u], []⟩ [(x, u)]) (only : Only H) (want : sp [.ref a] H (fun v _ => v = .bl true) C8.E0) (ok : HOk P w H s.heap) (at_a : ∀ b, H b ≠ none → b = a) (not_K : H a ≠ none → K.lookup a = none) :
    codeAny (model P w) callerA (.call (.ref fa) ⟨[.ref a], []⟩) (fun r s' => Done s s' r) s := by
  have free : ∀ {b : Addr}, b ≠ a → H b = none := fun {b} hn => by
    cases q : H b with
    | none => rfl
    | some u => exact absurd (at_a b (by rw [q]; simp)) hn
  have dict_free : ∀ {b : Addr} {o : Obj} {es : Array DictEntry} {ep : Nat}, s.heap.get? b = some o → o.data = .dict es ep → H b = none := fun {b o es ep} e d => free fun eq => by
    rw [eq, ha] at e
    cases e
    have d2 : Data.seq vs.toArray _ = Data.dict es ep := d
    cases d2
  have names : ∀ {b : Addr} {m : Str → Option Value}, s.heap.Ns b m → (hidT s.heap H).Ns b m := fun {b m} ⟨o, es, ep, e, d, r⟩ => ⟨o, es, ep, hidT_get e (dict_free e d), d, r⟩
  have hK : K.In (hidT s.heap H) := fun b o e => hidT_get (KX b o e) (by
    by_cases eq : b = a
    · subst eq
      cases q : H b with
      | none => rfl
      | some u => rw [not_K (by rw [q]; simp)] at e; cases e
    · exact free eq)
  have md : Mod K mg (hidT s.heap H) := by
    obtain ⟨mc, c1, c2⟩ := lim
    exact ⟨hK, names hns, ⟨mb, names hb, hbb⟩, mc, names c1, c2⟩
  have e0 : Env0 P w K mg (hidT s.heap H) callerA [] s H := ⟨rfl, md, fun _ _ e => of_hidT e, Nat.le_of_eq (hidT_size _ _), trivial, fun _ hm => absurd hm (List.not_mem_nil), ok, .of_eq gens⟩
  refine codeAny_mono ((F _ hK (names hns)).goes callerA [] s H ⟨[.ref a], []⟩ [.ref a] [.ref a] _ _ rfl room e0 (bd s (.ref a)) (.cons rfl .nil) want) fun r t got => ?_
  match r, got with
  | .ok (.ret u), got =>
    obtain ⟨v, H2, os, bare, un, ok2, rel, is_true⟩ := got
    obtain rfl : v = V.bl true := is_true
    obtain rfl : u = Value.bool true := rel
    refine ⟨rfl, OldK.of_keep fun b o e => ?_, os, bare⟩
    rcases only b with none_ | ⟨ob, xs, frozen⟩
    · exact un.keep b o e none_ (fun z => absurd z List.not_mem_nil) (by simp)
    · obtain ⟨e1, _⟩ := ok b _ frozen
      obtain ⟨e2, _⟩ := ok2 b _ (un.frzs b ob _ frozen)
      rw [e] at e1
      cases e1
      exact e2
theorem lawG_call (KX : K.In s.heap) (hns : s.heap.Ns mainGlobals mg) (hb : s.heap.Ns builtinsNs mb) (hbb : ∀ x : Str, x ≠ "__name__" → mb x = bootBuiltins x) (lim : s.heap.NoLimit) (gens : s.gens = #[])
    (ha : s.heap.get? a = some { cls := .type "list", data := .seq vs.toArray }) (hi : IntsAre vs ns) (hl : ns.length ≤ sizeLine) (room : Room k callerA) (F : ∀ base : Heap, K.In base → base.Ns mainGlobals mg → FnG P w K mg base k fa fd [x] sp)
    (bd : ∀ (s : Shared) (u : Value), BindsTo s fd ⟨[u], []⟩ [(x, u)]) (want : ∀ H : Hp, Only H → SqL K H a (ns.map V.int) → sp [.ref a] H (fun v _ => v = .bl true) C8.E0) :
    codeAny (model P w) callerA (.call (.ref fa) ⟨[.ref a], []⟩) (fun r s' => Done s s' r) s := by
  have rel := vals_ints hi
  cases own : K.lookup a with
  | some o =>
    have e := KX a o own
    rw [ha] at e
    cases e
    have only : Only (fun _ => none : Hp) := fun _ => .inl rfl
    have sq : SqL K (fun _ => none) a (ns.map V.int) := .inr ⟨_, vs.toArray, _, own, rfl, rfl, rfl, by rw [List.size_toArray, hi.length]; exact hl, by simpa using rel⟩
    refine lawG_at KX hns hb hbb lim gens ha room F bd only (want _ only sq) ?_ (fun b z => absurd rfl z) fun z => absurd rfl z
    intro b u z
    have z2 : (none : Option HO) = some u := z
    cases z2
  | none =>
    let one : HO := .frz { cls := .type "list", data := .seq vs.toArray } (.lst (ns.map V.int))
    let H : Hp := fun b => if b = a then some one else none
    have here : H a = some one := if_pos rfl
    have else_ : ∀ {b : Addr}, b ≠ a → H b = none := fun hn => if_neg hn
    have only : Only H := fun b => by
      by_cases e : b = a
      · exact .inr ⟨_, _, by rw [e]; exact here⟩
      · exact .inl (else_ e)
    refine lawG_at KX hns hb hbb lim gens ha room F bd only (want H only (.inl (.inr ⟨_, here⟩))) (fun b u z => ?_) (fun b z => ?_) fun _ => own
    · by_cases e : b = a
      · subst e
        rw [here] at z
        cases z
        exact ⟨ha, by rw [List.length_map]; exact hl, vs, _, rel, ha⟩
      · rw [else_ e] at z
        cases z
    · by_cases e : b = a
      · exact e
      · exact absurd (else_ e) z
end
theorem walkG {l : PySem.W.OpenLaw} {n k : Nat} {q : Program} {loose : List Str} {XP : (Str → Option Value) → Heap → Prop} {YP : World → Heap → Prop} {d : DefRec} {K : Params → PySem.W.Frag} {sp : PySem.W.Frag → Sp} {x : Str} (hn : l.most = some n) (hn2 : n ≤ sizeLine)
    (hdf : d.params.defaults = []) (room : Room k callerA) (hY : ∀ (w : World) (h : Heap), YP w h → (K w.params).In h)
    (F : ∀ (w : World) (mg : Str → Option Value) (fa : Addr) (h : Heap), (K w.params).In h → h.Ns mainGlobals mg → mg d.name = some (.ref fa) →
      ∃ fd : FuncData, (∀ (s : Shared) (u : Value), BindsTo s fd ⟨[u], []⟩ [(x, u)]) ∧ ∀ base : Heap, (K w.params).In base → base.Ns mainGlobals mg → FnG l.prog w (K w.params) mg base k fa fd [x] (sp (K w.params)))
    (want : ∀ (K : PySem.W.Frag) (H : Hp) (a : Addr) (ns : List Int), ns.length ≤ n → Only H → SqL K H a (ns.map V.int) → sp K [.ref a] H (fun v _ => v = .bl true) C8.E0) : PySem.W.WalkO q loose XP YP l.row.toRowW d [] (fun f vs => PySem.call f vs) := by
  refine Att.attach_call hn hdf ?_
  intro w s0 s1 mg mb fa o pm cd doc a vs ns G Y _ _ _ named list_ nums few gens
  have KX := hY w _ Y
  obtain ⟨fd, bd, F1⟩ := F w mg fa _ KX G.T.g named
  exact lawG_call KX G.T.g G.T.b G.T.builtins G.T.nolimit gens list_ nums (Nat.le_trans few hn2) room F1 bd fun H only sq => want _ H a ns few only sq
end LX
set_option maxHeartbeats 2000000
namespace LX
open PySem PySem.Spec PyProof.Rows L2 C8 SX
section
variable {prog : Program} {w : World} {A : Around} {E : Value → Shared → Prop} {s : Shared} {z TI TO i1 i2 : Addr} {fp1 fp2 : List Addr} {n1 n2 i : Nat} {P1 P2 : Nat → Value → Prop} {St1 St2 : Nat → Heap → Prop}
theorem zipD2_item_held {T : Addr} {f : Bool} {oT : Obj} {Q : Value → Shared → Prop} (S : ZipSep2 z TI TO i1 i2 fp1 fp2) (D1 : Draws prog w A i1 fp1 n1 P1 St1) (D2 : Draws prog w A i2 fp2 n2 P2 St2)
    (hz : IsZipHeld s.heap z TI TO T f) (hT : s.heap.get? T = some oT) (hTI : IsTupOf2 s.heap TI (.ref i1) (.ref i2)) (st1 : St1 i s.heap) (st2 : St2 i s.heap) (hlt1 : i < n1) (hlt2 : i < n2)
    (hQ : ∀ x1 x2 h' tk, P1 i x1 → P2 i x2 → IsZipHeld h' z TI TO T true → St1 (i + 1) h' → St2 (i + 1) h' → IsTupOf2 h' s.heap.objs.size x1 x2 → h'.objs.size = s.heap.objs.size + 1 →
      (∀ c o, c ≠ z → c ≠ i1 → c ≠ i2 → s.heap.get? c = some o → h'.get? c = some o) → Q (.ref s.heap.objs.size) { s with heap := h', toks := tk }) :
    wpAny (model prog w) A (Builtin.«zip.__next__» ⟨[.ref z], []⟩) (fun fin s' => ∃ v, fin = .done (.ret v) ∧ Q v s') E s := by
  show wpAny _ _ (field (.ref z) 2 >>= _) _ _ _
  refine wpAny_bind (wpAny_field hz rfl (x := .bool false) rfl ?_)
  show wpAny _ _ (field (.ref z) 3 >>= _) _ _ _
  refine wpAny_bind (wpAny_field hz rfl (x := .ref TI) rfl ?_)
  refine wpAny_bind (wpAny_seqItems hTI rfl ?_)
  show wpAny _ _ (Builtin.SmallTypes.ownedTupleIsFree (.ref z) >>= _) _ _ _
  refine wpAny_bind (wpAny_tupleHeld_zip hz hT fun h₁ hz₁ hs₁ => ?_)
  simp only [Bool.false_eq_true, if_false]
  refine wpAny_bind ?_
  rw [← Array.forIn_toList]
  simp only [List.forIn_cons, List.forIn_nil]
  refine wpAny_bind (wpAny_bind (wpAny_holding ?_))
  show wpAny _ _ (Builtin.SmallTypes.nextOf (.ref i1) >>= _) _ _ _
  refine wpAny_bind (D1.item i _ _ _ hlt1 (D1.over st1 hs₁ S.zf1) fun x1 h₂ tk₁ p1 h1₂ hs₂ => wpAny_pure ?_)
  refine wpAny_pure ?_
  refine wpAny_bind (wpAny_bind (wpAny_holding ?_))
  show wpAny _ _ (Builtin.SmallTypes.nextOf (.ref i2) >>= _) _ _ _
  refine wpAny_bind (D2.item i _ _ _ hlt2 (D2.over (D2.over st2 hs₁ S.zf2) hs₂ S.sep1_2) fun x2 h₃ tk₂ p2 h2₃ hs₃ => wpAny_pure ?_)
  refine wpAny_pure (wpAny_pure ?_)
  show wpAny _ _ (newTuple [x1, x2] >>= _) _ _ _
  refine wpAny_bind (wpAny_newTuple ?_)
  have hsz : h₃.objs.size = s.heap.objs.size := by rw [hs₃.1, hs₂.1, hs₁.1]
  have hz₃ : IsZipHeld h₃ z TI TO T true := hs₃.extBut _ _ S.zi2 (hs₂.extBut _ _ S.zi1 hz₁)
  have hk : ∀ c o, c ≠ z → c ≠ i1 → c ≠ i2 → s.heap.get? c = some o → h₃.get? c = some o := fun c o c1 c2 c3 e => hs₃.extBut _ _ c3 (hs₂.extBut _ _ c2 (hs₁.extBut _ _ c1 e))
  have h1₃ : St1 (i + 1) h₃ := D1.over h1₂ hs₃ S.sep2_1
  refine wpAny_pure ⟨_, rfl, ?_⟩
  show Q (.ref h₃.objs.size) _
  have hp : IsTupOf2 (h₃.push { cls := .type "tuple", data := .seq #[x1, x2] }) h₃.objs.size x1 x2 := Heap.get?_push_size _ rfl
  have hz4 : (h₃.push { cls := .type "tuple", data := .seq #[x1, x2] }).objs.size = h₃.objs.size + 1 := Heap.size_push ..
  rw [hsz] at hp hz4 ⊢
  exact hQ x1 x2 _ tk₂ p1 p2 (Heap.get?_push_of_some _ hz₃) (D1.frame _ _ _ h1₃ fun b _ o e => Heap.get?_push_of_some _ e) (D2.frame _ _ _ h2₃ fun b _ o e => Heap.get?_push_of_some _ e) hp hz4 fun c o c1 c2 c3 e => Heap.get?_push_of_some _ (hk c o c1 c2 c3 e)
theorem zipD2_end_held {T : Addr} {f : Bool} {oT : Obj} {Q : Fin → Shared → Prop} (S : ZipSep2 z TI TO i1 i2 fp1 fp2) (D1 : Draws prog w A i1 fp1 n1 P1 St1) (D2 : Draws prog w A i2 fp2 n1 P2 St2)
    (hz : IsZipHeld s.heap z TI TO T f) (hT : s.heap.get? T = some oT) (hTI : IsTupOf2 s.heap TI (.ref i1) (.ref i2)) (st1 : St1 n1 s.heap)
    (hE : ∀ h' e, (∀ c o, c ≠ z → c ≠ i1 → c ≠ i2 → s.heap.get? c = some o → h'.get? c = some o) → (∃ o, h'.get? e = some o ∧ o.cls = .type "StopIteration") → E (.ref e) { s with heap := h' }) :
    wpAny (model prog w) A (Builtin.«zip.__next__» ⟨[.ref z], []⟩) Q E s := by
  show wpAny _ _ (field (.ref z) 2 >>= _) _ _ _
  refine wpAny_bind (wpAny_field hz rfl (x := .bool false) rfl ?_)
  show wpAny _ _ (field (.ref z) 3 >>= _) _ _ _
  refine wpAny_bind (wpAny_field hz rfl (x := .ref TI) rfl ?_)
  refine wpAny_bind (wpAny_seqItems hTI rfl ?_)
  show wpAny _ _ (Builtin.SmallTypes.ownedTupleIsFree (.ref z) >>= _) _ _ _
  refine wpAny_bind (wpAny_tupleHeld_zip hz hT fun h₁ hz₁ hs₁ => ?_)
  simp only [Bool.false_eq_true, if_false]
  refine wpAny_bind ?_
  rw [← Array.forIn_toList]
  simp only [List.forIn_cons, List.forIn_nil]
  refine wpAny_bind (wpAny_bind (wpAny_holding ?_))
  show wpAny _ _ (Builtin.SmallTypes.nextOf (.ref i1) >>= _) _ _ _
  refine wpAny_bind (D1.done _ _ _ (D1.over st1 hs₁ S.zf1) fun h₂ e hs₂ he => ?_)
  exact hE h₂ e (fun c o c1 c2 _ x => hs₂ _ _ c2 (hs₁.extBut _ _ c1 x)) he
theorem pyNext_zipD2_item_held {T : Addr} {f : Bool} {oT : Obj} {Q : Option Value → Shared → Prop} (S : ZipSep2 z TI TO i1 i2 fp1 fp2) (D1 : Draws prog w A.in1 i1 fp1 n1 P1 St1) (D2 : Draws prog w A.in1 i2 fp2 n2 P2 St2)
    (hz : IsZipHeld s.heap z TI TO T f) (hT : s.heap.get? T = some oT) (hTI : IsTupOf2 s.heap TI (.ref i1) (.ref i2)) (st1 : St1 i s.heap) (st2 : St2 i s.heap) (hlt1 : i < n1) (hlt2 : i < n2)
    (hQ : ∀ x1 x2 h' tk, P1 i x1 → P2 i x2 → IsZipHeld h' z TI TO T true → St1 (i + 1) h' → St2 (i + 1) h' → IsTupOf2 h' s.heap.objs.size x1 x2 → h'.objs.size = s.heap.objs.size + 1 →
      (∀ c o, c ≠ z → c ≠ i1 → c ≠ i2 → s.heap.get? c = some o → h'.get? c = some o) → Q (some (.ref s.heap.objs.size)) { s with heap := h', toks := tk }) :
    wpAny (model prog w) A (pyNext (.ref z)) Q E s := by
  have hTy : s.TypeIs (.ref z) "zip" := ⟨_, hz, rfl⟩
  unfold pyNext
  exact wpAny_bind (wpAny_attempt (wpAny_callSpecial?_slot (name := Str.ofString "__next__") hTy F.slot_zip_next
    (wpAny_call_entry F.slot_zip_next hTy F.entry_zip_next
      (zipD2_item_held S D1 D2 hz hT hTI st1 st2 hlt1 hlt2 fun x1 x2 h' tk y1 y2 a1 a3 a4 a5 a6 a7 => wpAny_pure (hQ x1 x2 h' tk y1 y2 a1 a3 a4 a5 a6 a7)) (F.args_zip_next_1 _))))
theorem pyNext_zipD2_end_held {T : Addr} {f : Bool} {oT : Obj} {Q : Option Value → Shared → Prop} (S : ZipSep2 z TI TO i1 i2 fp1 fp2) (D1 : Draws prog w A.in1 i1 fp1 n1 P1 St1) (D2 : Draws prog w A.in1 i2 fp2 n1 P2 St2)
    (hz : IsZipHeld s.heap z TI TO T f) (hT : s.heap.get? T = some oT) (hTI : IsTupOf2 s.heap TI (.ref i1) (.ref i2)) (st1 : St1 n1 s.heap)
    (hQ : ∀ h', (∀ c o, c ≠ z → c ≠ i1 → c ≠ i2 → s.heap.get? c = some o → h'.get? c = some o) → Q none { s with heap := h' }) : wpAny (model prog w) A (pyNext (.ref z)) Q E s := by
  have hTy : s.TypeIs (.ref z) "zip" := ⟨_, hz, rfl⟩
  unfold pyNext
  refine wpAny_bind (wpAny_attempt (wpAny_callSpecial?_slot (name := Str.ofString "__next__") hTy F.slot_zip_next
    (wpAny_call_entry F.slot_zip_next hTy F.entry_zip_next (zipD2_end_held S D1 D2 hz hT hTI st1 fun h' e hk he => ?_) (F.args_zip_next_1 _))))
  obtain ⟨o, ho, hc⟩ := he
  refine wpAny_bind (wpAny_isInstance (T := "StopIteration") (b := true) ⟨o, ho, hc⟩ isSubtype_stop ?_)
  exact wpAny_pure (hQ _ hk)
theorem pairArg_zipD2 (S : ZipSep2 z TI TO i1 i2 fp1 fp2) (D1 : ∀ A : Around, A.handled = none → Draws prog w A i1 fp1 n1 P1 St1) (D2 : ∀ A : Around, A.handled = none → Draws prog w A i2 fp2 n1 P2 St2) :
    PairArg prog w "zip" z (z :: TI :: TO :: (fp1 ++ fp2)) [z, TO, i1, i2] n1 (fun i k v => P1 i k ∧ P2 i v)
      (fun h => IsZip h z TI TO .none ∧ IsTupOf2 h TI (.ref i1) (.ref i2) ∧ (∃ a b, IsTupOf2 h TO a b) ∧ St1 0 h ∧ St2 0 h ∧ ∀ b ∈ fp1 ++ fp2, ∃ o, h.get? b = some o) where
  type := fun s ok => ⟨_, ok.1, rfl⟩
  notDict := by decide
  keep := fun h h' ok hk => by
    obtain ⟨hz, hTI, ⟨a, b, hTO⟩, h1, h2, ex⟩ := ok
    exact ⟨hk _ _ hz, hk _ _ hTI, ⟨a, b, hk _ _ hTO⟩, (D1 callerA rfl).frame _ _ _ h1 fun b _ o e => hk b o e, (D2 callerA rfl).frame _ _ _ h2 fun b _ o e => hk b o e, fun b hb => let ⟨o, e⟩ := ex b hb; ⟨o, hk _ _ e⟩⟩
  there := fun h ok b hb => by
    obtain ⟨hz, hTI, ⟨a, c, hTO⟩, _, _, ex⟩ := ok
    rcases List.mem_cons.mp hb with rfl | hb
    · exact ⟨_, hz⟩
    rcases List.mem_cons.mp hb with rfl | hb
    · exact ⟨_, hTI⟩
    rcases List.mem_cons.mp hb with rfl | hb
    · exact ⟨_, hTO⟩
    exact ex b hb
  sub := fun b hb => by
    have e : b = z ∨ b = TO ∨ b = i1 ∨ b = i2 := by simpa using hb
    rcases e with rfl | rfl | rfl | rfl
    · simp
    · simp
    · have := S.mem1; simp [this]
    · have := S.mem2; simp [this]
  noKeys := fun A s Q E hA ok h => getAttrOr_miss_zip ok.1 rfl rfl rfl zip_no_keys (by decide +kernel) hA h
  iter := fun A s d Q E hA ok hd hdf h => by
    obtain ⟨hz, hTI, ⟨a, b, hTO⟩, h1, h2, _⟩ := ok
    have dz : d ≠ z := fun e => hdf (by simp [e])
    have dTI : d ≠ TI := fun e => hdf (by simp [e])
    have dTO : d ≠ TO := fun e => hdf (by simp [e])
    have df1 : ∀ b ∈ fp1, b ≠ d := fun b hb e => hdf (by subst e; simp [hb])
    have df2 : ∀ b ∈ fp2, b ≠ d := fun b hb e => hdf (by subst e; simp [hb])
    have dI1 := (df1 _ S.mem1).symm
    have dI2 := (df2 _ S.mem2).symm
    refine wpAny_pyIter_zip hz (h z [z, TO, i1, i2] (fun i h => IsTupOf2 h TI (.ref i1) (.ref i2) ∧ St1 i h ∧ St2 i h ∧
      ((IsZip h z TI TO .none ∧ ∃ a b, IsTupOf2 h TO a b) ∨ ∃ T f oT, IsZipHeld h z TI TO T f ∧ h.get? T = some oT ∧ T ≠ z ∧ T ≠ i1 ∧ T ≠ i2 ∧ T ≠ d)) s.heap s.toks ?_
      ⟨hTI, h1, h2, .inl ⟨hz, a, b, hTO⟩⟩ (fun _ _ e => e) fun b hb => .inl hb)
    exact {
      off := fun hm => by
        have e : d = z ∨ d = TO ∨ d = i1 ∨ d = i2 := by simpa using hm
        rcases e with e | e | e | e
        · exact dz e
        · exact dTO e
        · exact dI1 e
        · exact dI2 e
      frame := fun i h₁ h₂ st hk => by
        obtain ⟨hTI, h1, h2, hz⟩ := st
        refine ⟨hk _ _ (Ne.symm dTI) hTI, (D1 A hA).frame _ _ _ h1 fun b hb o e => hk b o (df1 b hb) e, (D2 A hA).frame _ _ _ h2 fun b hb o e => hk b o (df2 b hb) e, ?_⟩
        rcases hz with ⟨hz, a, b, hTO⟩ | ⟨T, f, oT, hz, hT, r1, r2, r3, r4⟩
        · exact .inl ⟨hk _ _ (Ne.symm dz) hz, a, b, hk _ _ (Ne.symm dTO) hTO⟩
        · exact .inr ⟨T, f, oT, hk _ _ (Ne.symm dz) hz, hk _ _ r4 hT, r1, r2, r3, r4⟩
      item := fun i s₁ Q₁ E₁ hi st hds hQ => by
        obtain ⟨hTI, h1, h2, hz⟩ := st
        have lt : ∀ {c o}, s₁.heap.get? c = some o → s₁.heap.objs.size ≠ c := fun e => Nat.ne_of_gt (Heap.lt_size e)
        have n1' : s₁.heap.objs.size ≠ i1 := let ⟨_, e⟩ := (D1 A hA).live _ _ h1; lt e
        have n2' : s₁.heap.objs.size ≠ i2 := let ⟨_, e⟩ := (D2 A hA).live _ _ h2; lt e
        rcases hz with ⟨hz, a, b, hTO⟩ | ⟨T, f, oT, hz, hT, r1, r2, r3, r4⟩
        · refine wpAny_pyNext_zipD2_item S (D1 A.in1 hA) (D2 A.in1 hA) hz hTI hTO h1 h2 hi hi fun x1 x2 h' tk p1 p2 a1 a2 a3 a4 a5 a6 hk => ?_
          exact hQ s₁.heap.objs.size _ _ h' tk ⟨p1, p2⟩ (.inl ⟨_, a5, rfl, _, rfl⟩)
            ⟨hk _ _ S.TIz S.TITO S.TIi1 S.TIi2 hTI, a3, a4, .inr ⟨s₁.heap.objs.size, false, _, a1, a5, lt hz, n1', n2', Nat.ne_of_gt hds⟩⟩
            fun c o hc e => hk c o (fun x => hc (by simp [x])) (fun x => hc (by simp [x])) (fun x => hc (by simp [x])) (fun x => hc (by simp [x])) e
        · refine pyNext_zipD2_item_held S (D1 A.in1 hA) (D2 A.in1 hA) hz hT hTI h1 h2 hi hi fun x1 x2 h' tk p1 p2 a1 a3 a4 a5 a6 hk => ?_
          exact hQ s₁.heap.objs.size _ _ h' tk ⟨p1, p2⟩ (.inl ⟨_, a5, rfl, _, rfl⟩)
            ⟨hk _ _ S.TIz S.TIi1 S.TIi2 hTI, a3, a4, .inr ⟨T, true, oT, a1, hk _ _ r1 r2 r3 hT, r1, r2, r3, r4⟩⟩
            fun c o hc e => hk c o (fun x => hc (by simp [x])) (fun x => hc (by simp [x])) (fun x => hc (by simp [x])) e
      done := fun s₁ Q₁ E₁ st hQ => by
        obtain ⟨hTI, h1, h2, hz⟩ := st
        rcases hz with ⟨hz, a, b, hTO⟩ | ⟨T, f, oT, hz, hT, r1, r2, r3, r4⟩
        · exact wpAny_pyNext_zipD2_end S (D1 A.in1 hA) (D2 A.in1 hA) hz hTI hTO h1 h2 (Nat.le_refl _) (Nat.le_refl _) (.inl rfl) fun h' tk hk => hQ h' tk
            fun c o hc e => hk c o (fun x => hc (by simp [x])) (fun x => hc (by simp [x])) (fun x => hc (by simp [x])) (fun x => hc (by simp [x])) e
        · exact pyNext_zipD2_end_held S (D1 A.in1 hA) (D2 A.in1 hA) hz hT hTI h1 fun h' hk => hQ h' s₁.toks
            fun c o hc e => hk c o (fun x => hc (by simp [x])) (fun x => hc (by simp [x])) (fun x => hc (by simp [x])) e }
end
theorem zip_map_get {α β γ : Type} (f : α → β → γ) : ∀ (l : List α) (m : List β) (i : Nat), ((l.zip m).map fun p => f p.1 p.2)[i]? = (l[i]?.bind fun a => m[i]?.map fun b => f a b)
  | [], _, i => by simp
  | a :: l, [], i => by cases h : (a :: l)[i]? <;> simp
  | a :: l, b :: m, 0 => rfl
  | a :: l, b :: m, i + 1 => by simpa using zip_map_get f l m i
theorem paired_zip {l : List Nat} : ∀ {ys : List V} {its : List Value}, Vals ys its → KV ((l.zip ys).map fun p => (tk [p.1], p.2)) ((l.zip its).map fun p => (tk [p.1], p.2)) := by
  induction l with
  | nil => intro ys its _; exact .nil
  | cons c l ih =>
    intro ys its r
    cases r with
    | nil => exact .nil
    | cons h t => exact .cons ⟨rfl, h⟩ (ih t)
def tDictZip (K : PySem.W.Frag) (ta : TA) : TE := fun σ H Q => ta σ H fun vs H1 => ∃ (l : List Nat) (b : Addr) (ys : List V), vs = [.str (S l), .ref b] ∧ SqT K H1 b ys ∧ ys.length = l.length ∧ l.length ≤ 1000 ∧
  ∀ p, H1 p = none → Q (.ref p) (upd H1 p (.dK (mergeK [] ((l.zip ys).map fun p => (tk [p.1], p.2)))))
theorem pe_dictZip {X : Cx} {e e2 : Expr} {ta : TA} {p p2 pos pos2 : Pos} (hc : X.calm = true) (hgd : Gl X "dict") (hmd : X.mg "dict" = none) (hg : Gl X "zip") (hm : X.mg "zip" = none) (ha : PA X [e, e2] ta)
    (hs : starEach [e, e2] X.env = (false, eval e X.env) :: starEach [e2] X.env := by rfl) (hpl : (backTo pos2 (starEach [e2] X.env)).any (·.1) = false := by rfl)
    (hs' : starEach [.Call (.Name "zip" p2) [e, e2] [] pos2] X.env = (false, eval (.Call (.Name "zip" p2) [e, e2] [] pos2) X.env) :: starEach [] X.env := by rfl) (hpl' : (backTo pos (starEach [] X.env)).any (·.1) = false := by rfl) :
    PE X (.Call (.Name "dict" p) [.Call (.Name "zip" p2) [e, e2] [] pos2] [] pos) (tDictZip X.K ta) := by
  refine ⟨fun pins s σ H Q I h => ?_⟩
  refine Call_ (ld_blt I hgd hmd PyProof.Rows.boot_dict (PyProof.Rows.callWith_type1 (Q := EP X pins σ Q) ?_ hs' hpl'))
  rw [hs']
  refine PySem.Calls.spliced_cons ?_
  refine Call_ (ld_blt I hg hm PyProof.Rows.boot_zip (PyProof.Rows.callWith_type1 (thn (ha.run pos2 pins s σ H _ I h) fun us s1 ⟨vs, H1, I1, r1, q1⟩ => ?_) hs hpl))
  obtain ⟨l, b, ys, ex, hb, hl, hz, q⟩ := q1
  subst ex
  obtain ⟨u, u', rfl, r, r'⟩ := vals2 r1
  obtain ⟨t, rfl⟩ := (show ∃ t, u = Value.str (S l) t from r)
  obtain rfl : u' = Value.ref b := r'
  obtain ⟨its, rv, ht, _⟩ := I1.tuple hb
  have hlen : its.toArray.size = (S l).cps.size := by rw [List.size_toArray, ← rv.length, hl]; simp [S]
  have hbl : b < s1.heap.objs.size := ht.lt
  refine zip_begins2 (begins_text (S l) t) (begins_tuple b its.toArray) trivial ht fun h' hz' hTI hTO h1 h2 hsz hk => ?_
  refine PySem.Calls.spliced_nil ?_
  have I2 : Inv X pins σ H1 { s1 with heap := h' } := I1.kept (t' := s1.toks) hk
  have f2 : ∀ a ∈ [b], a < s1.heap.objs.size := fun a h => by rw [List.mem_singleton.mp h]; exact hbl
  have S2 := PySem.zip_sep2 (N := s1.heap.objs.size) (fp1 := []) (fp2 := [b]) (fun _ h => nomatch h) f2
  have P := pairArg_zipD2 (prog := X.prog) (w := X.w) S2 (fun A hh => Draws.text hh s1.heap.objs.size (S l) t)
    (fun A hh => hlen ▸ Draws.tuple hh (s1.heap.objs.size + 1) b (Nat.ne_of_lt (Nat.lt_succ_of_lt hbl)) its.toArray)
  have ht2 : h'.IsTuple b its.toArray := (show s1.heap.IsTuple b its.toArray from ht).at fun o e => hk _ _ e
  have hn : H1 h'.objs.size = none := I2.hok.fresh (Nat.le_refl _)
  have hl2 : its.length = l.length := by rw [← rv.length, hl]
  refine PySem.call_dict_pairs (knd := mixKind X.prog X.w) (kvs := (l.zip its).map fun p => (tk [p.1], p.2)) P (I1.ok.hd hc) ?_ ⟨?_, ?_⟩ ?_ fun h3 tk3 hd3 hk3 => ?_
  · refine ⟨hz', hTI, ⟨_, _, hTO⟩, ⟨_, h1, rfl, rfl⟩, ⟨⟨_, h2, rfl, rfl⟩, ht2⟩, fun a ha => ?_⟩
    have e : a = s1.heap.objs.size ∨ a = s1.heap.objs.size + 1 ∨ a = b := by simpa using ha
    rcases e with rfl | rfl | rfl
    · exact ⟨_, h1⟩
    · exact ⟨_, h2⟩
    · obtain ⟨o, e, _⟩ := ht2; exact ⟨o, e⟩
  · rw [List.length_map, List.length_zip, hl2, Nat.min_self]; simp [S]
  · rintro i key v ⟨⟨c, u, hc', rfl⟩, hv⟩
    have hc2 : l[i]? = some c := by simpa [S] using hc'
    have hv2 : its[i]? = some v := by simpa using hv
    refine ⟨tk [c], ?_, kV_is (P := X.prog) (w := X.w) (k := tk [c]) ⟨u, rfl⟩⟩
    rw [zip_map_get (fun a b => (tk [a], b)), hc2, hv2]; rfl
  · simp [S]; exact Nat.le_trans hz (by decide)
  · have kvr : KV ((l.zip ys).map fun p => (tk [p.1], p.2)) ((l.zip its).map fun p => (tk [p.1], p.2)) := paired_zip rv
    have hm' : (h'.objs.size == sysModules) = false := beq_eq_false_iff_ne.mpr (Nat.ne_of_gt I2.big)
    have hlen2 : (mergeK [] ((l.zip ys).map fun p => (tk [p.1], p.2))).length ≤ sizeLine := by
      refine Nat.le_trans (length_mergeK _ []) ?_
      rw [List.length_nil, Nat.zero_add, List.length_map, List.length_zip, hl, Nat.min_self]
      exact Nat.le_trans hz (by decide)
    have keep3 : ∀ c o, s1.heap.get? c = some o → h3.get? c = some o := fun c o e => hk3 c o (fun hm => by
      have hlt : c < s1.heap.objs.size := Heap.lt_size e
      have e' : c = s1.heap.objs.size + 4 ∨ c = s1.heap.objs.size + 3 ∨ c = s1.heap.objs.size ∨ c = s1.heap.objs.size + 1 := by simpa using hm
      have hle : s1.heap.objs.size ≤ c := by
        rcases e' with z | z | z | z
        · rw [z]; exact Nat.le_add_right _ _
        · rw [z]; exact Nat.le_add_right _ _
        · rw [z]; exact Nat.le_refl _
        · rw [z]; exact Nat.le_add_right _ _
      exact Nat.lt_irrefl _ (Nat.lt_of_lt_of_le hlt hle)) (hk _ _ e)
    have hsz5 : s1.heap.objs.size ≤ h'.objs.size := by rw [hsz]; omega
    exact ⟨.ref h'.objs.size, upd H1 h'.objs.size (.dK (mergeK [] ((l.zip ys).map fun p => (tk [p.1], p.2)))), I1.laid (t' := tk3) keep3 hsz5 (show ObjOk X.prog X.w _ _ _ (.dK _) from ⟨hlen2, hm', merged [] _, KV.merge kvr .nil, hd3⟩), rfl, q _ hn⟩
end LX
set_option maxHeartbeats 2000000
namespace LX
open PySem PySem.Spec PyProof.Rows L2 C8 SX
theorem meets_enum1 {v : Value} {o : Obj} {H : Heap → Prop} (B : Begins v o H) :
    Meets (Builtin.«enumerate.__new__» ⟨[.type "enumerate", v], []⟩) (fun _ R s => H s.heap ∧
      R (.ok (.ret (.ref (s.heap.push o).objs.size))) { s with heap := (s.heap.push o).push { cls := .type "enumerate", data := .fields #[.none, .bool false, .ref s.heap.objs.size, rawInt 0, .none, .none] } }) :=
  .of_wp fun prog w A R s h => by
    obtain ⟨hp, g, d, tk, os⟩ := s; obtain ⟨h1, h⟩ := h
    have hsub := sub_enumerate
    have q1 : ∀ {A' : Around} {E : Value → Shared → Prop} {Q : Value → Shared → Prop}, Q (.ref hp.objs.size) ⟨hp.push o, g, d, tk, os⟩ → wpAny (model prog w) A' (pyIter v) Q E ⟨hp, g, d, tk, os⟩ :=
      fun q => B.iter prog w _ _ ⟨hp, g, d, tk, os⟩ _ h1 q
    wp_walk using q1
    refine wpAny_stack_any fun st => wpAny_pure ?_
    split
    · rename_i c _ _ _ _ _
      cases (c == Value.type "enumerate")
      · wp_walk using q1
        exact ⟨_, rfl, h⟩
      · wp_walk using q1
        exact ⟨_, rfl, h⟩
    · wp_walk using q1
      exact ⟨_, rfl, h⟩
theorem enum1_begins {prog : Program} {w : World} {A : Around} {E : Value → Shared → Prop} {s : Shared} {v : Value} {o : Obj} {H : Heap → Prop} {Q : Value → Shared → Prop} (B : Begins v o H) (h1 : H s.heap)
    (h : ∀ h', IsEnum h' (s.heap.objs.size + 1) s.heap.objs.size 0 .none → h'.get? s.heap.objs.size = some o → h'.objs.size = s.heap.objs.size + 2 →
      (∀ b o, s.heap.get? b = some o → h'.get? b = some o) → Q (.ref (s.heap.objs.size + 1)) { s with heap := h' }) :
    wpAny (model prog w) A (call (.type "enumerate") [v]) Q E s := by
  refine callType_new F.called_enumerate (by decide) (F.typeCall_enumerate_1 _) (F.newCall_enumerate_1 _) (fun obj => F.args_object_init_2 obj _) F.entry_enumerate_new
    (meets_enum1 B) ⟨h1, ?_⟩
  have hz : (s.heap.push o).objs.size = s.heap.objs.size + 1 := Heap.size_push ..
  show _ ∧ _
  rw [hz]
  have he : IsEnum ((s.heap.push o).push { cls := .type "enumerate", data := .fields #[.none, .bool false, .ref s.heap.objs.size, rawInt 0, .none, .none] }) (s.heap.objs.size + 1) s.heap.objs.size 0 .none := by
    have := Heap.get?_push_size (s.heap.push o) (o := { cls := .type "enumerate", data := .fields #[.none, .bool false, .ref s.heap.objs.size, rawInt 0, .none, .none] }) rfl
    rw [hz] at this; exact this
  refine ⟨⟨_, he, rfl⟩, h _ he (Heap.get?_push_of_some _ (Heap.get?_push_size _ B.free)) (by rw [Heap.size_push, hz]) fun b o x => Heap.get?_push_of_some _ (Heap.get?_push_of_some _ x)⟩
def IteX (K : PySem.W.Frag) (S : Sr) : It :=
  ⟨fun i H => S.has K i H, fun i H v H' => ∃ T x, v = .ref T ∧ H T = none ∧ H' = upd H T (.tup [.int (i : Nat), x]) ∧ S.val K i H x, fun i H => S.upto K i H ∧ S.ends K i H⟩
theorem turn_enumX {P : Program} {w : World} {K : PySem.W.Frag} {elts : List Expr} {kk : Nat} {tpos : Pos} {e it : Addr} (S : Sr) (n1 : ∀ a ∈ S.fp, a ≠ it) (ne : e ≠ it) (nf : e ∉ S.fp) :
    Turn P w K (.Tuple elts kk tpos) (IteX K S) [e, it] e (fun i h => (∃ old, IsEnum h e it ((i : Nat) : Int) old) ∧ S.tn it i h) where
  mem := by simp
  obj := fun i h st b hb => by
    obtain ⟨⟨old, he⟩, h1⟩ := st
    have e' : b = e ∨ b = it := by simpa using hb
    rcases e' with z | z
    · rw [z]; exact ⟨_, he, fun v q => nomatch q⟩
    · rw [z]; exact Sr.tn_obj h1
  keep := fun i h h' st k => let ⟨⟨old, he⟩, h1⟩ := st; ⟨⟨old, k e (by simp) _ he⟩, Sr.tn_keep h1 fun o q => k it (by simp) o q⟩
  item := by
    intro X hP hw hK hc i pins s σ H E I hf st hg
    subst hP hw hK
    obtain ⟨⟨old, he⟩, h1⟩ := st
    obtain ⟨m1, ⟨P1, St1, D1, st1, v1, t1⟩, _, lt1, _⟩ := S.draws I n1 h1 (Sr.has_upto hg)
    have hel : e < s.heap.objs.size := Heap.lt_size he
    have hil : it < s.heap.objs.size := by obtain ⟨_, q, _⟩ := Sr.tn_obj h1; exact Heap.lt_size q
    refine wpAny_pyNext_enum_itemD (D1 _ (I.ok.hd hc)) he st1 (lt1 hg) ne (by simp [ne, nf]) fun u h' tk p1 ho st1' hT hsz hk => ?_
    obtain ⟨x, hx, rx⟩ := v1 u p1
    refine ⟨_, rfl, wpAny_letOwnedTupleGo_enum (s := { s with heap := h', toks := tk + 1 }) ho fun h'' he' sb => ?_⟩
    have hT2 : h''.get? s.heap.objs.size = some { cls := .type "tuple", data := .seq #[.int i tk, u] } := (sb.2 _ (Nat.ne_of_gt hel)).trans hT
    have new : ObjOk X.prog X.w (upd H s.heap.objs.size (.tup [.int (i : Nat), x])) h'' s.heap.objs.size (.tup [.int (i : Nat), x]) :=
      ⟨by show 2 ≤ sizeLine; decide, [.int i tk, u], .cons ⟨_, rfl⟩ (.cons rx .nil), ⟨_, hT2, rfl, _, rfl⟩⟩
    have I1 : Inv X pins σ (upd H s.heap.objs.size (.tup [.int (i : Nat), x])) { s with heap := h'', toks := tk + 1 } :=
      I.turnedNew (ch := [e, it]) (fun b ob hb q => (sb.2 b (fun z => hb (by simp [z]))).trans (hk b ob (fun z => hb (by simp [z])) (fun z => hb (by simp [z])) q)) hf (Nat.le_refl _) new
    refine ⟨.ref s.heap.objs.size, _, I1, rfl, ⟨_, x, rfl, I.hok.fresh (Nat.le_refl _), rfl, hx⟩, ⟨⟨u, ?_⟩, Sr.tn_keep (t1 _ _ st1') fun o q => (sb.2 it (Ne.symm ne)).trans q⟩, fun b hb => ?_⟩
    · have e1 : ((i + 1 : Nat) : Int) = (i : Int) + 1 := by omega
      rw [e1]; exact he'
    · have hb' : b < s.heap.objs.size := by
        have e' : b = e ∨ b = it := by simpa using hb
        rcases e' with z | z
        · rw [z]; exact hel
        · rw [z]; exact hil
      rw [upd_ne (Nat.ne_of_lt hb')]
      exact (hf b hb).1
  done := by
    intro X hP hw hK hc i pins s σ H E I hf st hg
    subst hP hw hK
    obtain ⟨⟨old, he⟩, h1⟩ := st
    obtain ⟨g1, ge⟩ := hg
    obtain ⟨m1, ⟨P1, St1, D1, st1, v1, t1⟩, _, _, eq1⟩ := S.draws I n1 h1 g1
    obtain ⟨f0, f1, f2, f3, f4, f5⟩ := hf it (by simp)
    have e1 := eq1 ge
    subst e1
    exact wpAny_pyNext_enum_endD (D1 _ (I.ok.hd hc)) he st1 fun h' eb => ⟨rfl, I.turned (t' := s.toks) (fun b o hb q => eb b o hb q) f0 f1 f3 f4 f5⟩
  self := fun A i s Q E st h => let ⟨⟨_, he⟩, _⟩ := st; wpAny_pyIter_enum he h
def iEnumX (K : PySem.W.Frag) (ta : TA) : TI := fun σ H R => ta σ H fun vs H1 => ∃ (x : V) (S : Sr), vs = [x] ∧ S.of x ∧ S.there K H1 ∧ R (IteX K S) H1
theorem pi_enumX {X : Cx} {e : Expr} {ta : TA} {p pos tpos : Pos} {elts : List Expr} {kk : Nat} (hg : Gl X "enumerate") (hm : X.mg "enumerate" = none) (ha : PA X [e] ta) (hs : starEach [e] X.env = [(false, eval e X.env)] := by rfl) :
    PI X (.Tuple elts kk tpos) (.Call (.Name "enumerate" p) [e] [] pos) (iEnumX X.K ta) := by
  refine ⟨fun pins s σ H R I h => ?_⟩
  refine Call_ (ld_blt I hg hm PyProof.Rows.boot_enumerate (PyProof.Rows.callWith_type1 (thn (ha.run pos pins s σ H _ I h) fun us s1 ⟨vs, H1, I1, r1, q1⟩ => ?_) hs rfl))
  obtain ⟨x, S, ex, e1, th1, q⟩ := q1
  subst ex
  obtain ⟨u, rfl, r⟩ := vals1 r1
  obtain ⟨o1, HH1, B1, b1, f1, t1⟩ := Sr.begins I1 r e1 th1
  refine enum1_begins B1 b1 fun h' he hit hsz hk => wpAny_pyIter_enum he ?_
  have I2 : Inv X pins σ H1 { s1 with heap := h' } := I1.kept (t' := s1.toks) hk
  refine ⟨s1.heap.objs.size + 1, [s1.heap.objs.size + 1, s1.heap.objs.size], _, _, H1, rfl, I2, turn_enumX S (fun a ha => Nat.ne_of_lt (f1 a ha)) (Nat.succ_ne_self _) (fun hm => Nat.not_lt.mpr (Nat.le_add_right _ _) (f1 _ hm)), ⟨⟨.none, he⟩, t1 _ _ hit⟩, fun b hb => ?_, q⟩
  have e' : b = s1.heap.objs.size + 1 ∨ b = s1.heap.objs.size := by simpa using hb
  have hle : s1.heap.objs.size ≤ b := by
    rcases e' with z | z
    · rw [z]; exact Nat.le_add_right _ _
    · rw [z]; exact Nat.le_refl _
  exact I1.fpOk hle (I1.hok.fresh hle)
theorem walk_enumX {K : PySem.W.Frag} {S : Sr} {xs : List V} : Walk (IteX K S) xs.length (fun H => S.is K H xs) (YPair (fun i => some (.int (i : Nat))) (fun i => xs[i]?)) := by
  refine ⟨fun i H hi q => Sr.is_has hi q, fun H q => ⟨Sr.is_upto (Nat.le_refl _) q, Sr.is_ends rfl q⟩, fun i H v H' _ q y => ?_⟩
  obtain ⟨T, x, h1, h2, h3, h4⟩ := y
  exact ⟨T, .int (i : Nat), x, h1, h2, h3, rfl, Sr.is_val q h4⟩
theorem dc_keep {Rel : Hp → Hp → Prop} {J : It} {n : Nat} {G : Hp → Prop} {Y : Nat → Hp → V → Hp → Prop} {H1 : Hp} (kp : Keep Rel H1) (w : Walk J n G Y) {g : TG} {ka te : TE} {vs : List Nat} {σ : L2.St} {D : Addr} {Qd : Hp → Prop} (hD : H1 D = none) (hn : n < sizeLine)
    (key : Nat → Key) (Good : Nat → V → Hp → Prop) (hG : ∀ H, Rel H1 H → G H) (inj : ∀ i j, i < n → j < i → key j ≠ key i)
    (st : ∀ i y H H', Rel H1 H → Rel H H' → Good i y H → Good i y H') (pt : ∀ i y H acc o, Rel H1 H → H D = some (.dK acc) → Good i y H → Good i y (upd H D o))
    (hs : ∀ i x H H' acc (R : V → V → Hp → Prop), i < n → Rel H1 H → H D = some (.dK acc) → Y i H x H' → (∀ y H4, Rel H H4 → Good i y H4 → R (kV (key i)) y H4) → g x (wipe σ vs) H' fun σ2 H2 => wipe σ2 vs = wipe σ vs ∧ ka σ2 H2 fun k H3 => te σ2 H3 fun z H4 => R k z H4)
    (hd : ∀ ys H, ys.length = n → (∀ (j : Nat) y, ys[j]? = some y → Good j y H) → Rel H1 H → H D = some (.dK ((List.range n).zip ys |>.map fun p => (key p.1, p.2))) → Qd H) :
    ∃ W : Nat → Nat → Hp → Prop, (∃ m, W 0 m (upd H1 D (.dK []))) ∧ ∀ i m H, W i m H →
      (J.stop i H ∧ Qd H) ∨ (J.go i H ∧ ∃ Nx : Hp → Prop, (∀ H', Nx H' → ∃ m', m' < m ∧ W (i + 1) m' H') ∧ ∀ x H', J.yld i H x H' → g x (wipe σ vs) H' fun σ2 H2 => wipe σ2 vs = wipe σ vs ∧ tYes σ2 H2 fun b H3 =>
        if b = true then ka σ2 H3 fun y H4 => te σ2 H4 fun z H5 => ∃ kvs k, y = kV k ∧ H5 D = some (.dK kvs) ∧ kvs.length < sizeLine ∧ Nx (upd H5 D (.dK (putK kvs k z))) else Nx H3) := by
  refine ⟨fun i m H => m = n - i ∧ i ≤ n ∧ ∃ ys : List V, ys.length = i ∧ H D = some (.dK ((List.range i).zip ys |>.map fun p => (key p.1, p.2))) ∧ Rel H1 H ∧ ∀ (j : Nat) y, ys[j]? = some y → Good j y H, ⟨n, by omega, Nat.zero_le _, [], rfl, upd_same, kp.put _ _ _ kp.refl hD, fun j y e => by simp at e⟩, ?_⟩
  rintro i m H ⟨rfl, hi, ys, hl, hDa, r, hg⟩
  rcases Nat.lt_or_ge i n with h | h
  · refine .inr ⟨w.goes i H h (hG H r), fun H' => ∃ ys : List V, ys.length = i + 1 ∧ H' D = some (.dK ((List.range (i + 1)).zip ys |>.map fun p => (key p.1, p.2))) ∧ Rel H1 H' ∧ ∀ (j : Nat) y, ys[j]? = some y → Good j y H', fun H' h' => ⟨n - (i + 1), by omega, rfl, h, h'⟩, fun x H' hy => ?_⟩
    have key2 : ∀ (z : V) H5, Rel H H5 → Good i z H5 → ∃ kvs k, kV (key i) = kV k ∧ H5 D = some (.dK kvs) ∧ kvs.length < sizeLine ∧ ∃ ys : List V, ys.length = i + 1 ∧ (upd H5 D (.dK (putK kvs k z))) D = some (.dK ((List.range (i + 1)).zip ys |>.map fun p => (key p.1, p.2))) ∧ Rel H1 (upd H5 D (.dK (putK kvs k z))) ∧ ∀ (j : Nat) y, ys[j]? = some y → Good j y (upd H5 D (.dK (putK kvs k z))) := fun z H5 r5 gz => by
      have hD5 := kp.get _ _ _ _ r5 hD r hDa
      have r6 := kp.trans _ _ r r5
      refine ⟨_, key i, rfl, hD5, by rw [List.length_map, List.length_zip, List.length_range, hl]; omega, ys ++ [z], by simp [hl], ?_, kp.put _ _ _ r6 hD, fun j y e => ?_⟩
      · rw [upd_same]
        congr 2
        rw [putK_new _ (valV_none fun p hp => ?_), List.range_succ, List.zip_append (by rw [List.length_range, hl])]
        · simp
        · obtain ⟨q, hq, rfl⟩ := List.mem_map.mp hp
          have : q.1 < i := List.mem_range.mp (List.of_mem_zip hq).1
          exact inj i q.1 h this
      · rcases Nat.lt_or_ge j ys.length with h | h
        · rw [List.getElem?_append_left h] at e
          exact pt _ _ _ _ _ r6 hD5 (st _ _ _ _ r r5 (hg j y e))
        · rw [List.getElem?_append_right h] at e
          have hj : j - ys.length = 0 := by
            rcases Nat.lt_or_ge (j - ys.length) 1 with z | z
            · omega
            · rw [List.getElem?_eq_none (by simpa using z)] at e; cases e
          rw [hj] at e
          have : z = y := Option.some.inj e
          subst this
          have : j = i := by omega
          subst this
          exact pt _ _ _ _ _ r6 hD5 gz
    exact hs i x H H' _ (fun k z H5 => ∃ kvs k', k = kV k' ∧ H5 D = some (.dK kvs) ∧ kvs.length < sizeLine ∧ ∃ ys : List V, ys.length = i + 1 ∧ (upd H5 D (.dK (putK kvs k' z))) D = some (.dK ((List.range (i + 1)).zip ys |>.map fun p => (key p.1, p.2))) ∧ Rel H1 (upd H5 D (.dK (putK kvs k' z))) ∧ ∀ (j : Nat) y, ys[j]? = some y → Good j y (upd H5 D (.dK (putK kvs k' z)))) h r hDa (w.yields i H x H' h (hG H r) hy) fun y H4 r4 gy => key2 y H4 r4 gy
  · have : i = n := by omega
    subst this
    exact .inl ⟨w.stops H (hG H r), hd ys H hl hg r hDa⟩
end LX
set_option maxHeartbeats 4000000
namespace LX
open PySem PySem.Spec PyProof.Rows L2 C8 SX
theorem inK {X : Cx} (K : PySem.W.Frag) (h : X.K = K := by rfl) : OpR X (compareOp .In) (rIn K false) := by subst h; exact op_in_seq
theorem notInK {X : Cx} (K : PySem.W.Frag) (h : X.K = K := by rfl) : OpR X (compareOp .NotIn) (rIn K true) := by subst h; exact op_notIn_seq
section
variable {prog : Program} {w : World} {A : Around} {R : Result → Shared → Prop} {I S : Addr} {fp wr : List Addr} {G : Array GenState → Array GenState → Prop} {n : Nat} {P : Nat → Value → Prop} {St : Nat → Shared → Prop}
abbrev setO (led : Bool) : Obj := { cls := .type "set", dict := none, data := .set #[] 0 (.fresh 0 0 led) }
abbrev Elem (prog : Program) (w : World) (xs : List Str) (i : Nat) (S : Addr) (h : Heap) : Prop := h.SetOf (PySem.strKind prog w) S (fun k => decide (k ∈ xs.take i)) i
theorem Elem.stay {xs : List Str} {i : Nat} {h h' : Heap} (e : Elem prog w xs i S h) (k : ∀ o, h.get? S = some o → h'.get? S = some o) : Elem prog w xs i S h' :=
  let ⟨o, es, ep, tb, ho, rest⟩ := e; ⟨o, es, ep, tb, k o ho, rest⟩
theorem set_loopT (W : WalksS prog w A.in1 I fp wr G n P St) (off : S ∉ fp) {xs : List Str} (hl : xs.length = n) (nd : xs.Nodup) (room : n < scanBound) (val : ∀ i v, P i v → ∃ x t, xs[i]? = some x ∧ v = .str x t) :
    ∀ (k i : Nat) (s : Shared), i + k = n → St i s → Elem prog w xs i S s.heap → (∀ s', Moved (S :: wr) G s s' → Elem prog w xs n S s'.heap → R (.ok (.ret .none)) s') →
      codeAny (model prog w) A (.builtin "set.update.loop" ⟨[.ref S, .ref I], []⟩) R s
  | 0, i, s, hk, hst, he, hR => by
    obtain rfl : i = n := hk
    refine codeAny_builtin PyProof.Rows.F.entry_set_update_loop ?_
    rw [Around.under_plainId PyProof.Rows.F.plain_set_update_loop _]
    refine wpAny_bind (W.done s _ _ hst fun s' hm => wpAny_pure (hR s' (hm.mono fun b hb => List.mem_cons_of_mem _ hb) (he.stay fun o e => hm.heap S o (fun h => off (W.sub _ h)) e)))
  | k + 1, i, s, hk, hst, he, hR => by
    refine codeAny_builtin PyProof.Rows.F.entry_set_update_loop ?_
    rw [Around.under_plainId PyProof.Rows.F.plain_set_update_loop _]
    refine wpAny_bind (W.item i s _ _ (by omega) hst fun v s' hP hst' hm => ?_)
    obtain ⟨x, t, hx, rfl⟩ := val i v hP
    have he' : Elem prog w xs i S s'.heap := he.stay fun o e => hm.heap S o (fun h => off (W.sub _ h)) e
    show wpAny _ A.in1 (holding [Value.str x t] (setAdd S (.str x t)) >>= _) _ _ s'
    refine wpAny_bind (wpAny_holding ?_)
    unfold setAdd
    refine wpAny_holding (wpAny_bind ((PySem.strKind prog w).pyHash (k := x) (strKind_is _ _ _ _) ?_))
    refine wpAny_setAddHashed_of (knd := PySem.strKind prog w) (s := { s' with toks := s'.toks + 1 }) (strKind_is _ _ _ _) rfl he' (by omega) fun h' hsb hS2 => ?_
    have hni : x ∉ xs.take i := not_in_take nd hx
    have he2 : Elem prog w xs (i + 1) S h' := SetOf_congr hS2 (fun y => by rw [take_more hx]; by_cases e : y ∈ xs.take i <;> by_cases e2 : y = x <;> simp [e, e2]) (by rw [if_neg (by simpa using hni)])
    refine wpAny_pure ⟨plainId_quiet PyProof.Rows.F.plain_set_update_loop _, set_loopT W off hl nd room val k (i + 1) _ (by omega) (W.frame _ s' _ _ hst' (Nat.le_succ _) fun b hb o e => ?_) he2 fun s2 hm2 he3 => ?_⟩
    · rw [hsb.2 b (fun h => off (h ▸ hb))]; exact e
    · refine hR s2 (Moved.trans W.gtrans ((hm.mono fun b hb => List.mem_cons_of_mem _ hb).then_heap (Nat.le_succ _) fun b o hb e => ?_) hm2) he3
      rw [hsb.2 b (fun h => hb (by rw [h]; exact List.mem_cons_self))]; exact e
end
section
variable {prog : Program} {w : World} {A : Around} {E : Value → Shared → Prop} {s : Shared}
theorem set_of_list {l : Addr} {items : Array Value} {xs : List Str} {Q : Value → Shared → Prop} (hh : A.handled = none) (hl : s.heap.IsList l items) (hi : PyProof.Rows.StrsAre items.toList xs) (nd : xs.Nodup) (room : xs.length < scanBound)
    (h : ∀ (h' : Heap) (tk : Nat), Elem prog w xs xs.length s.heap.objs.size h' → (∀ b o, s.heap.get? b = some o → h'.get? b = some o) → Q (.ref s.heap.objs.size) { s with heap := h', toks := tk }) :
    wpAny (model prog w) A (call (.type "set") [.ref l]) Q E s := by
  obtain ⟨c, tl, hmro⟩ := PySem.F.called_set.mro
  have hmade := PySem.F.called_set.made
  have hsub := PySem.F.called_set.sub
  refine wpAny_call (codeAny_of_tree ?_)
  refine wpAny_pure ⟨Code.quiet_builtin _ (by decide +kernel), codeAny_builtin PySem.F.entry_type_call ?_⟩
  rw [Around.under_plain (weight_type_call_type "set" [.ref l] []) rfl]
  have nt := PySem.F.called_set.notType
  have cc := PySem.F.called_set.canCreate
  have ct := PySem.F.typeCall_set_1 (.ref l)
  repeat (any_goals (first | assumption | wp_step))
  refine codeAny_mono (code_set_new_1 (.ref l) (E := E) (Q₁ := fun obj s1 => ∃ led : Bool, obj = .ref s.heap.objs.size ∧ s1 = { s with heap := s.heap.push { cls := .type "set", dict := none, data := .set #[] 0 (.fresh 0 0 led) } }) fun led => ⟨led, rfl, rfl⟩) fun r s1 hr => ?_
  match r, hr with
  | .ok (.ret obj), hr =>
    obtain ⟨led, rfl, rfl⟩ := hr
    have hS : (s.heap.push (setO led)).get? s.heap.objs.size = some (setO led) := Heap.get?_push_size _ rfl
    have hTy : Shared.TypeIs { s with heap := s.heap.push (setO led) } (.ref s.heap.objs.size) "set" := ⟨_, hS, rfl⟩
    have li := PySem.F.called_set.init.lookup
    have bi := PySem.F.called_set.init.bind (.ref s.heap.objs.size)
    repeat (any_goals (first | assumption | wp_step))
    refine codeAny_mono (codeAny_call_builtin (R := wants (fun r s2 => r = .none ∧ ∃ h' tk, s2 = { s with heap := h', toks := tk } ∧ Elem prog w xs xs.length s.heap.objs.size h' ∧ (∀ b o, s.heap.get? b = some o → h'.get? b = some o)) E)
      PySem.F.called_set.init.plain PySem.F.entry_set_init (check_set_init_1 hTy ?_)) fun r2 s2 hr2 => ?_
    · obtain ⟨⟨oc, od, odt, osl⟩, hol, hcl, nl, hdl⟩ := hl
      dsimp only at hcl hdl
      subst hcl hdl
      have hol' : (s.heap.push (setO led)).get? l = some { cls := .type "list", dict := od, data := .seq items nl, slots := osl } := Heap.get?_push_of_some _ hol
      have ss := PySem.F.sub_list_set
      have sf := PySem.F.sub_list_frozenset
      have ne : (Value.type "list" == Value.type "dict") = false := by decide
      have hl1 : (s.heap.push (setO led)).IsList l items := ⟨_, hol', rfl, nl, rfl⟩
      unfold Builtin.«set.__init__» noKeywords Builtin.Frozenset.updateFrom
      generalize hPI : pyIter = PI
      wp_walk
      subst hPI
      refine wpAny_pyIter_list hl1 ?_
      refine wpAny_bind (wpAny_runValue ?_)
      have hlS : l < s.heap.objs.size := Heap.lt_size hol
      have hz : (s.heap.push (setO led)).objs.size = s.heap.objs.size + 1 := Heap.size_push ..
      have neI : l ≠ (s.heap.push (setO led)).objs.size := by rw [hz]; exact Nat.ne_of_lt (Nat.lt_succ_of_lt hlS)
      have off : s.heap.objs.size ∉ [(s.heap.push (setO led)).objs.size, l] := by
        rw [hz]; simp only [List.mem_cons, List.not_mem_nil, or_false, not_or]
        exact ⟨Nat.ne_of_lt (Nat.lt_succ_self _), Nat.ne_of_gt hlS⟩
      have hsz : xs.length = items.size := by rw [← StrsAre.len_eq hi, Array.length_toList]
      refine set_loopT (xs := xs) ((Walks.list (A := A.in1.in1.in1) (by simp [hh]) _ l neI items).toS) off hsz nd (by rw [← hsz]; exact room) (fun i v hv => ?_) items.size 0 _ (Nat.zero_add _) ⟨⟨_, Heap.get?_push_size _ rfl, rfl, rfl⟩, hl1.push _⟩ ?_ fun s' hm hS' => ?_
      · obtain ⟨t, e⟩ := SS.strs_at hi i v (by rw [Array.getElem?_toList]; exact hv)
        have hlt : i < xs.length := by rw [hsz]; exact (Array.getElem?_eq_some_iff.mp hv).1
        exact ⟨xs[i], t, List.getElem?_eq_getElem hlt, by rw [e, List.getD_eq_getElem?_getD, List.getElem?_eq_getElem hlt]; rfl⟩
      · exact PyProof.Rows.SetOf_congr ((PyProof.Rows.setObjOf_fresh (knd := PySem.strKind prog w) led).setOf (Heap.get?_push_of_some _ hS) (by unfold scanBound; omega)) (fun _ => by simp) rfl
      · obtain ⟨h', g', d', tk', os'⟩ := s'
        obtain rfl : g' = s.gens := hm.gens
        obtain rfl : d' = s.drawn := hm.drawn
        obtain rfl : os' = s.os := hm.os
        refine wpAny_pure (wpAny_pure ⟨rfl, h', tk', rfl, by rw [hsz]; exact hS', fun b o e => ?_⟩)
        have hb : b < s.heap.objs.size := Heap.lt_size e
        refine hm.heap b o (fun hmem => ?_) (Heap.get?_push_of_some _ (Heap.get?_push_of_some _ e))
        have e' : b = s.heap.objs.size ∨ b = (s.heap.push (setO led)).objs.size := by simpa using hmem
        rcases e' with e' | e'
        · exact Nat.ne_of_lt hb e'
        · rw [hz] at e'; exact Nat.ne_of_lt (Nat.lt_succ_of_lt hb) e'
    · match r2, hr2 with
      | .ok (.ret r), hr2 =>
        obtain ⟨rfl, h', tk, rfl, hS', hk'⟩ := hr2
        repeat (any_goals (first | assumption | wp_step))
        exact h _ _ hS' hk'
      | .error e, hr2 => exact hr2
  | .error e, hr => exact hr
end
section
variable {prog : Program} {w : World} {A : Around} {E : Value → Shared → Prop} {s : Shared}
theorem set_of_tuple {l : Addr} {items : Array Value} {xs : List Str} {Q : Value → Shared → Prop} (hh : A.handled = none) (hl : s.heap.IsTuple l items) (hi : PyProof.Rows.StrsAre items.toList xs) (nd : xs.Nodup) (room : xs.length < scanBound)
    (h : ∀ (h' : Heap) (tk : Nat), Elem prog w xs xs.length s.heap.objs.size h' → (∀ b o, s.heap.get? b = some o → h'.get? b = some o) → Q (.ref s.heap.objs.size) { s with heap := h', toks := tk }) :
    wpAny (model prog w) A (call (.type "set") [.ref l]) Q E s := by
  obtain ⟨c, tl, hmro⟩ := PySem.F.called_set.mro
  have hmade := PySem.F.called_set.made
  have hsub := PySem.F.called_set.sub
  refine wpAny_call (codeAny_of_tree ?_)
  refine wpAny_pure ⟨Code.quiet_builtin _ (by decide +kernel), codeAny_builtin PySem.F.entry_type_call ?_⟩
  rw [Around.under_plain (weight_type_call_type "set" [.ref l] []) rfl]
  have nt := PySem.F.called_set.notType
  have cc := PySem.F.called_set.canCreate
  have ct := PySem.F.typeCall_set_1 (.ref l)
  repeat (any_goals (first | assumption | wp_step))
  refine codeAny_mono (code_set_new_1 (.ref l) (E := E) (Q₁ := fun obj s1 => ∃ led : Bool, obj = .ref s.heap.objs.size ∧ s1 = { s with heap := s.heap.push { cls := .type "set", dict := none, data := .set #[] 0 (.fresh 0 0 led) } }) fun led => ⟨led, rfl, rfl⟩) fun r s1 hr => ?_
  match r, hr with
  | .ok (.ret obj), hr =>
    obtain ⟨led, rfl, rfl⟩ := hr
    have hS : (s.heap.push (setO led)).get? s.heap.objs.size = some (setO led) := Heap.get?_push_size _ rfl
    have hTy : Shared.TypeIs { s with heap := s.heap.push (setO led) } (.ref s.heap.objs.size) "set" := ⟨_, hS, rfl⟩
    have li := PySem.F.called_set.init.lookup
    have bi := PySem.F.called_set.init.bind (.ref s.heap.objs.size)
    repeat (any_goals (first | assumption | wp_step))
    refine codeAny_mono (codeAny_call_builtin (R := wants (fun r s2 => r = .none ∧ ∃ h' tk, s2 = { s with heap := h', toks := tk } ∧ Elem prog w xs xs.length s.heap.objs.size h' ∧ (∀ b o, s.heap.get? b = some o → h'.get? b = some o)) E)
      PySem.F.called_set.init.plain PySem.F.entry_set_init (check_set_init_1 hTy ?_)) fun r2 s2 hr2 => ?_
    · obtain ⟨⟨oc, od, odt, osl⟩, hol, hcl, nl, hdl⟩ := hl
      dsimp only at hcl hdl
      subst hcl hdl
      have hol' : (s.heap.push (setO led)).get? l = some { cls := .type "tuple", dict := od, data := .seq items nl, slots := osl } := Heap.get?_push_of_some _ hol
      have ss := PySem.F.sub_tuple_set
      have sf := PySem.F.sub_tuple_frozenset
      have ne : (Value.type "tuple" == Value.type "dict") = false := by decide
      have hl1 : (s.heap.push (setO led)).IsTuple l items := ⟨_, hol', rfl, nl, rfl⟩
      unfold Builtin.«set.__init__» noKeywords Builtin.Frozenset.updateFrom
      generalize hPI : pyIter = PI
      wp_walk
      subst hPI
      refine wpAny_pyIter_tuple hl1 ?_
      refine wpAny_bind (wpAny_runValue ?_)
      have hlS : l < s.heap.objs.size := Heap.lt_size hol
      have hz : (s.heap.push (setO led)).objs.size = s.heap.objs.size + 1 := Heap.size_push ..
      have neI : l ≠ (s.heap.push (setO led)).objs.size := by rw [hz]; exact Nat.ne_of_lt (Nat.lt_succ_of_lt hlS)
      have off : s.heap.objs.size ∉ [(s.heap.push (setO led)).objs.size, l] := by
        rw [hz]; simp only [List.mem_cons, List.not_mem_nil, or_false, not_or]
        exact ⟨Nat.ne_of_lt (Nat.lt_succ_self _), Nat.ne_of_gt hlS⟩
      have hsz : xs.length = items.size := by rw [← StrsAre.len_eq hi, Array.length_toList]
      refine set_loopT (xs := xs) ((Walks.tuple (A := A.in1.in1.in1) (by simp [hh]) _ l neI items).toS) off hsz nd (by rw [← hsz]; exact room) (fun i v hv => ?_) items.size 0 _ (Nat.zero_add _) ⟨⟨_, Heap.get?_push_size _ rfl, rfl, rfl⟩, hl1.push _⟩ ?_ fun s' hm hS' => ?_
      · obtain ⟨t, e⟩ := SS.strs_at hi i v (by rw [Array.getElem?_toList]; exact hv)
        have hlt : i < xs.length := by rw [hsz]; exact (Array.getElem?_eq_some_iff.mp hv).1
        exact ⟨xs[i], t, List.getElem?_eq_getElem hlt, by rw [e, List.getD_eq_getElem?_getD, List.getElem?_eq_getElem hlt]; rfl⟩
      · exact PyProof.Rows.SetOf_congr ((PyProof.Rows.setObjOf_fresh (knd := PySem.strKind prog w) led).setOf (Heap.get?_push_of_some _ hS) (by unfold scanBound; omega)) (fun _ => by simp) rfl
      · obtain ⟨h', g', d', tk', os'⟩ := s'
        obtain rfl : g' = s.gens := hm.gens
        obtain rfl : d' = s.drawn := hm.drawn
        obtain rfl : os' = s.os := hm.os
        refine wpAny_pure (wpAny_pure ⟨rfl, h', tk', rfl, by rw [hsz]; exact hS', fun b o e => ?_⟩)
        have hb : b < s.heap.objs.size := Heap.lt_size e
        refine hm.heap b o (fun hmem => ?_) (Heap.get?_push_of_some _ (Heap.get?_push_of_some _ e))
        have e' : b = s.heap.objs.size ∨ b = (s.heap.push (setO led)).objs.size := by simpa using hmem
        rcases e' with e' | e'
        · exact Nat.ne_of_lt hb e'
        · rw [hz] at e'; exact Nat.ne_of_lt (Nat.lt_succ_of_lt hb) e'
    · match r2, hr2 with
      | .ok (.ret r), hr2 =>
        obtain ⟨rfl, h', tk, rfl, hS', hk'⟩ := hr2
        repeat (any_goals (first | assumption | wp_step))
        exact h _ _ hS' hk'
      | .error e, hr2 => exact hr2
  | .error e, hr => exact hr
end
section
variable {X : Cx}
def tLenSetT (K : PySem.W.Frag) (ta : TE) : TE := fun σ H Q => ta σ H fun x H1 => ∃ (l : Addr) (xs : List (List Nat)), x = V.ref l ∧ (SqL K H1 l (txs xs) ∨ SqT K H1 l (txs xs)) ∧ xs.length < 60 ∧ xs.Nodup ∧ Q (.int xs.length) H1
theorem nodup_S {xs : List (List Nat)} (h : xs.Nodup) : (xs.map S).Nodup := List.pairwise_map.mpr (h.imp fun n e => n (by have : (S _).cps.toList = (S _).cps.toList := congrArg (fun z : Str => z.cps.toList) e; simpa [S] using this))
theorem pe_lenSetT {a : Expr} {ta : TE} {p p2 q pos : Pos} (hc : X.calm = true) (hg : Gl X "len") (hm : X.mg "len" = none) (hg2 : Gl X "set") (hm2 : X.mg "set" = none) (ha : PE X a ta)
    (na : starEach [a] X.env = (false, eval a X.env) :: starEach [] X.env := by rfl) : PE X (.Call (.Name "len" p) [.Call (.Name "set" p2) [a] [] q] [] pos) (tLenSetT X.K ta) := by
  refine ⟨fun pins s σ H Q I h => ?_⟩
  refine Call_ (ld_blt I hg hm PySem.boot_len (PyProof.Rows.callWith_builtin1 (PyProof.Rows.args_cons ?_ rfl) rfl rfl))
  refine Call_ (ld_blt I hg2 hm2 PyProof.Rows.boot_set (PyProof.Rows.callWith_type1 (PyProof.Rows.args_cons (thn (ha.run pins s σ H _ I h) fun v s1 ⟨x, H1, I1, r1, q1⟩ => PyProof.Rows.args_nil ?_) na) na rfl))
  obtain ⟨l, xs, rfl, hq, h1, hnd, q1⟩ := q1
  cases r1
  have e0 : txs xs = (xs.map S).map V.str := by unfold txs; rw [List.map_map]; rfl
  have room : (xs.map S).length < scanBound := by rw [List.length_map]; unfold scanBound; omega
  have fin : ∀ (h' : Heap) (tk : Nat), Elem X.prog X.w (xs.map S) (xs.map S).length s1.heap.objs.size h' → (∀ b o, s1.heap.get? b = some o → h'.get? b = some o) →
      wpAny (model X.prog X.w) X.A (spliced (backTo pos (starEach [] X.env))) (fun vs s₂ => wpAny (model X.prog X.w) X.A (call (.builtin "len") (Value.ref s1.heap.objs.size :: vs)) (EP X pins σ Q) X.xe s₂) X.xe { s1 with heap := h', toks := tk } := fun h' tk hS hk => by
    refine PyProof.Rows.args_nil ?_
    obtain ⟨o, es, ep, t, ho, hex, hd, _, _, _, hf, hn⟩ := hS
    have I2 : Inv X pins σ H1 { s1 with heap := h', toks := tk } := I1.kept hk
    rw [List.length_map] at hn
    exact call_len_set ho hex hd hf (by rw [hn]; omega) ⟨.int xs.length, H1, I2.tok _, ⟨_, by rw [hn]⟩, q1⟩
  rcases hq with hq | hq
  · rw [e0] at hq
    obtain ⟨its, r, pl, hz⟩ := I1.list hq
    exact set_of_list (I1.ok.hd hc) pl.isList (by simpa using strsAre_of r) (nodup_S hnd) room fun h' tk hS hk => fin h' tk hS hk
  · rw [e0] at hq
    obtain ⟨its, r, pl, hz⟩ := I1.tuple hq
    exact set_of_tuple (I1.ok.hd hc) pl (by simpa using strsAre_of r) (nodup_S hnd) room fun h' tk hS hk => fin h' tk hS hk
end
end LX
set_option maxHeartbeats 2000000
namespace LX
open PySem PySem.Spec PyProof.Rows L2 C8 SX
def SqB (K : PySem.W.Frag) (b : Bool) (H : Hp) (a : Addr) (xs : List V) : Prop := if b = true then SqL K H a xs else SqT K H a xs
def ItA (K : PySem.W.Frag) (b : Bool) (a : Addr) : It := if b = true then Itl K a else Itt K a
theorem SqB.or {K : PySem.W.Frag} {b : Bool} {H : Hp} {a : Addr} {xs : List V} (h : SqB K b H a xs) : SqL K H a xs ∨ SqT K H a xs := by
  cases b
  · exact .inr h
  · exact .inl h
theorem SqB.same {K : PySem.W.Frag} {b : Bool} {H H' : Hp} {a : Addr} {xs : List V} (h : SqB K b H a xs) (s : Same H H') : SqB K b H' a xs := by
  cases b
  · exact sm_seqT s h
  · exact s.seq h
theorem SqB.lst {K : PySem.W.Frag} {H : Hp} {a : Addr} {xs : List V} (h : H a = some (.lst xs)) : SqB K true H a xs := SqL.of h
theorem SqB.tup {K : PySem.W.Frag} {H : Hp} {a : Addr} {xs : List V} (h : H a = some (.tup xs)) : SqB K false H a xs := SqT.of h
def seqB (b : Bool) (xs : List V) : HO := if b = true then .lst xs else .tup xs
theorem SqB.of {K : PySem.W.Frag} {b : Bool} {H : Hp} {a : Addr} {xs : List V} (h : H a = some (seqB b xs)) : SqB K b H a xs := by
  cases b
  · exact SqB.tup h
  · exact SqB.lst h
theorem walk_seq {K : PySem.W.Frag} {b : Bool} {a : Addr} {xs : List V} : Walk (ItA K b a) xs.length (fun H => SqB K b H a xs) (YAt xs) := by
  cases b
  · exact walk_tup
  · exact walk_list
def iSeq (K : PySem.W.Frag) (tl : TE) : TI := fun σ H R => tl σ H fun x H1 => ∃ a b xs, x = .ref a ∧ SqB K b H1 a xs ∧ R (ItA K b a) H1
theorem pi_seq {X : Cx} {tg l : Expr} {tl : TE} (hl : PE X l tl) : PI X tg l (iSeq X.K tl) := by
  refine ⟨fun pins s σ H R I h => thn (hl.run pins s σ H _ I h) fun v s1 ⟨x, H1, I1, r1, a, b, xs, e, hq, q⟩ => ?_⟩
  subst e
  cases r1
  have new : ∀ c ∈ [s1.heap.objs.size], FpOk X pins H1 c := fun c hc => by
    rw [List.mem_singleton.mp hc]
    exact I1.fpOk (Nat.le_refl _) (I1.hok.fresh (Nat.le_refl _))
  cases b with
  | true =>
    obtain ⟨its, rv, p, hz⟩ := I1.list hq
    exact wpAny_pyIter_list p.isList ⟨s1.heap.objs.size, _, _, _, H1, rfl, I1.kept (t' := s1.toks) fun b o e => Heap.get?_push_of_some _ e, turn_list a _, ⟨_, Heap.get?_push_size _ rfl, rfl, rfl⟩, new, q⟩
  | false =>
    obtain ⟨its, rv, p, hz⟩ := I1.tuple hq
    exact wpAny_pyIter_tuple (show s1.heap.IsTuple a its.toArray from p) ⟨s1.heap.objs.size, _, _, _, H1, rfl, I1.kept (t' := s1.toks) fun b o e => Heap.get?_push_of_some _ e, turn_tuple a _, ⟨_, Heap.get?_push_size _ rfl, rfl, rfl⟩, new, q⟩
theorem pi_listK {X : Cx} {tg l : Expr} {tl : TE} (K : PySem.W.Frag) (hl : PE X l tl) (h : X.K = K := by rfl) : PI X tg l (iList K tl) := by subst h; exact pi_list hl
theorem pi_tupK {X : Cx} {tg l : Expr} {tl : TE} (K : PySem.W.Frag) (hl : PE X l tl) (h : X.K = K := by rfl) : PI X tg l (iTup K tl) := by subst h; exact pi_tup hl
theorem pi_seqK {X : Cx} {tg l : Expr} {tl : TE} (K : PySem.W.Frag) (hl : PE X l tl) (h : X.K = K := by rfl) : PI X tg l (iSeq K tl) := by subst h; exact pi_seq hl
def inS : Expr → Scope
  | .ListComp (.ListComp _ _ s _) _ _ _ => s
  | _ => { kind := .function, names := [], isGenerator := false, isCoroutine := false }
def outS : Expr → Scope
  | .ListComp _ _ s _ => s
  | _ => { kind := .function, names := [], isGenerator := false, isCoroutine := false }
def ofRet : Stmt → Expr
  | .Return (some e) _ => e
  | .Assign _ e _ => e
  | _ => .Constant .none 0 ⟨0, 0, 0, 0⟩
theorem tuple_of {K : PySem.W.Frag} {b : Bool} {H : Hp} {a : Addr} {xs : List V} {Q : VK} (h : SqB K b H a xs) (q1 : ∀ l, H l = none → Q (.ref l) (upd H l (.tup xs))) (q2 : b = false → Q (.ref a) H) :
    (SqL K H a xs ∧ ∀ l, H l = none → Q (.ref l) (upd H l (.tup xs))) ∨ (SqT K H a xs ∧ Q (.ref a) H) := by
  cases b
  · exact .inr ⟨h, q2 rfl⟩
  · exact .inl ⟨h, q1⟩
theorem tupA {K : PySem.W.Frag} {b : Bool} {H : Hp} {a : Addr} {xs : List V} {Q : VK} (h : H a = some (seqB b xs)) (k : ∀ l H', Same H H' → H' l = some (.tup xs) → (b = false → l = a) → (b = true → H l = none) → Q (.ref l) H') :
    (SqL K H a xs ∧ ∀ l, H l = none → Q (.ref l) (upd H l (.tup xs))) ∨ (SqT K H a xs ∧ Q (.ref a) H) := by
  cases b
  · exact .inr ⟨SqT.of h, k a H (Same.refl H) h (fun _ => rfl) (fun h => nomatch h)⟩
  · exact .inl ⟨SqL.of h, fun l hl => k l _ (sm_new hl) upd_same (fun h => nomatch h) (fun _ => hl)⟩
theorem tCB_tup {K : PySem.W.Frag} {b : Bool} {i : Nat} {σ : L2.St} {H : Hp} {a : Addr} {xs : List V} {Q : VK} (hv : σ[i]? = some (some (.ref a))) (h : H a = some (seqB b xs)) (k : ∀ l H', Same H H' → H' l = some (.tup xs) → (b = false → l = a) → (b = true → H l = none) → Q (.ref l) H') :
    tCB (fun xs H Q => ∃ p ys, xs = [.ref p] ∧ ((SqL K H p ys ∧ ∀ l, H l = none → Q (.ref l) (upd H l (.tup ys))) ∨ (SqT K H p ys ∧ Q (.ref p) H))) (tCons (tVar i) tNil) σ H Q :=
  ⟨_, hv, a, xs, rfl, tupA (Q := Q) h k⟩
theorem eqV_S {x y : List Nat} : eqV (.str (S x)) (.str (S y)) = decide (x = y) := by
  show (S x == S y) = _
  by_cases e : x = y
  · subst e; simp
  · have : S x ≠ S y := fun h => e (by have : (S x).cps.toList = (S y).cps.toList := congrArg (fun z : Str => z.cps.toList) h; simpa [S] using this)
    rw [decide_eq_false e]; simpa using this
theorem flat_txs (xs : List (List Nat)) : (txs xs).all flatV = true := by
  unfold txs; rw [List.all_map]; exact List.all_eq_true.mpr fun _ _ => rfl
theorem inV_txs {x : List Nat} {xs : List (List Nat)} : inV (.str (S x)) (txs xs) = decide (x ∈ xs) := by
  unfold inV txs
  induction xs with
  | nil => rfl
  | cons y ys ih =>
    rw [List.map_cons, List.any_cons, ih]
    show (eqV (.str (S y)) (.str (S x)) || _) = _
    rw [eqV_S]
    by_cases e : y = x <;> by_cases e2 : x ∈ ys <;> simp [e, e2]
    · intro h; exact absurd h.symm e
theorem dictZipK {X : Cx} (K : PySem.W.Frag) {e e2 : Expr} {ta : TA} {p p2 pos pos2 : Pos} (hc : X.calm = true) (hgd : Gl X "dict") (hmd : X.mg "dict" = none) (hg : Gl X "zip") (hm : X.mg "zip" = none) (ha : PA X [e, e2] ta) (h : X.K = K := by rfl)
    (hs : starEach [e, e2] X.env = (false, eval e X.env) :: starEach [e2] X.env := by rfl) (hpl : (backTo pos2 (starEach [e2] X.env)).any (·.1) = false := by rfl)
    (hs' : starEach [.Call (.Name "zip" p2) [e, e2] [] pos2] X.env = (false, eval (.Call (.Name "zip" p2) [e, e2] [] pos2) X.env) :: starEach [] X.env := by rfl) (hpl' : (backTo pos (starEach [] X.env)).any (·.1) = false := by rfl) :
    PE X (.Call (.Name "dict" p) [.Call (.Name "zip" p2) [e, e2] [] pos2] [] pos) (tDictZip K ta) := by subst h; exact pe_dictZip hc hgd hmd hg hm ha hs hpl hs' hpl'
end LX
set_option maxHeartbeats 1000000
namespace Toy
open PySem L2 C8 SX LX
local macro_rules | `(tactic| walk_at "c") => `(tactic| refine And.intro (by first | (show (0 : Int) < _; omega) | exact Or.inr ⟨by decide, by decide⟩ | exact Or.inl ⟨by decide, by decide⟩ | (exact ⟨by omega, by omega⟩)) ?_)
local macro_rules | `(tactic| walk_at "s1") => `(tactic| first | refine ⟨_, rfl, ?_⟩ | refine ⟨_, _, rfl, rfl, ?_⟩ | refine .inl ⟨_, rfl, ?_⟩ | walk_at "c")
local macro_rules | `(tactic| walk_at "s") => `(tactic| repeat (walk_at "s1"))
section
variable {P : Program} {w : World} {K : PySem.W.Frag} {mg : Str → Option Value} {base : Heap}
theorem all_true : ∀ {ys : List V}, (∀ (j : Nat) y, ys[j]? = some y → y = .bl true) → ys = (List.replicate ys.length true).map V.bl
  | [], _ => rfl
  | y :: ys, h => by
    rw [List.length_cons, List.replicate_succ, List.map_cons, ← all_true (ys := ys) fun j z e => h (j + 1) z e, h 0 y rfl]
theorem rep_all (n : Nat) : (List.replicate n true).all id = true := by simp
theorem cut_any (ys : List V) (k : Nat) : cutV ys none (some (k : Int)) = ys.take k := by
  unfold cutV
  rw [HT.sIx_none, HT.sIx_nat, List.drop_zero, Nat.sub_zero]
  rcases Nat.le_total k ys.length with h | h
  · rw [Nat.min_eq_left h]
  · rw [Nat.min_eq_right h, List.take_length, List.take_of_length_le h]
abbrev s_box : Stmt := top 47
abbrev n_box : List Str := ["script", "base", "cell", "stirred", "one"]
theorem sc_box : FnScope n_box ["script", "base"] (fnScope s_box) := fnScope_by (by decide +kernel)
def spBox : PySem.W.Frag → Sp := fun K vs H Q _ => ∃ (a : Addr) (k : Nat) (ns : List Int), vs = [.ref a, .int k] ∧ SqL K H a (ns.map V.int) ∧ ns.length ≤ 63 ∧ k ≤ 10 ∧
  ∀ (p : Addr) (H' : Hp), Same H H' → H p = none → BoxAt p H' → Q (.ref p) H'
theorem int_at {ns : List Int} {i : Nat} (h : i < ns.length) : ∃ z : Int, (ns.map V.int)[i]? = some (.int z) := ⟨ns[i], by rw [List.getElem?_map, List.getElem?_eq_getElem h]; rfl⟩
theorem ok_box (T : BT mg) {f : Addr} {fd : FuncData} (F : Def K mg "_law_box" s_box f fd) (b : Binds K fd ["script", "base"] []) : Cal P w K mg base 1 "_law_box" (spBox K) [] := by
  refine cal0 F b .nil sc_box (fun vs H Q E h => ?_) (fun cdv A outer s H vs Q E hr h => ?_)
  · obtain ⟨a, k, ns, rfl, _⟩ := h; rfl
  · obtain ⟨a, k, ns, rfl, ha, hl, hk, kk⟩ := h
    refine ⟨_, (C8.pss_cut (ps_set (i := 2) sc_box.nd rfl (.inl rfl) (pe_ifExp (pt_cmpR op_lt (pv 1) (pe_callB (lenK K) (by rfl) T.m_len PySem.boot_len (pa_cons (pv 0) pa_nil)) (nomark _)) (pe_callB call_abs (by rfl) T.m_abs PyProof.Rows.boot_abs (pa_cons (pe_callTy call_int1 (by rfl) T.m_int PyProof.Rows.boot_int (pa_cons (pe_ix (ixl K) (pv 0) (pv 1) (fun _ _ => rfl)) pa_nil)) pa_nil)) pe_int))
      (pss_cons (ps_set (i := 3) sc_box.nd rfl (.inl rfl) (pe_op op_add pe_int (pe_op op_mul pe_int (pv 1))))
      (pss_cons (ps_for PassesOwn.never rfl (pi_list (pe_slice sl_list (pv 0) po_none (po_some pe_int))) (pg_name (i := 4) sc_box.nd rfl (.inl rfl)) 
        (pss_one (ps_set (i := 3) sc_box.nd rfl (.inl rfl) (pe_op op_mod (pe_callTy call_int1 (by rfl) T.m_int PyProof.Rows.boot_int (pa_cons (pe_op op_add (pe_op op_add (pe_op op_mul (pv 3) pe_int) (pe_op op_mod (pe_callB call_abs (by rfl) T.m_abs PyProof.Rows.boot_abs (pa_cons (pe_callTy call_int1 (by rfl) T.m_int PyProof.Rows.boot_int (pa_cons (pv 4) pa_nil)) pa_nil)) pe_int)) pe_int) pa_nil)) pe_int))
        ))
      (pss_one (ps_ret (pe_lst (pa_cons (pe_ifExp (pt_cmpR op_ge (pv 2) (pe_op op_pow pe_int pe_int) (nomark _)) (pv 2) pe_int) (pa_cons (pv 3) (pa_cons pe_int pa_nil)))))
      )))), ?_⟩
    refine ⟨fun σ H' => H' = H ∧ ∃ c : Int, σ = [some (.ref a), some (.int k), some (.int c), none, none], ?_, ?_⟩
    · walk_at "s"
      refine ⟨_, _, rfl, .inl ha, ?_⟩
      walk_at "s"
      refine ite2 (fun hk => ?_) (fun hk => ?_)
      · rw [List.length_map, decide_eq_true_eq] at hk
        obtain ⟨z, hz⟩ := int_at (ns := ns) (i := k) (by omega)
        walk_at "s"
        refine ⟨_, _, _, .int z, rfl, rfl, ha, at_of rfl hz, ?_⟩
        walk_at "s"
        exact ⟨rfl, _, rfl⟩
      · exact ⟨rfl, _, rfl⟩
    · rintro σ H' ⟨rfl, c, rfl⟩
      walk_at "s"
      refine ⟨a, _, rfl, ha, fun q hq => ?_⟩
      rw [show (44 : Int) = ((44 : Nat) : Int) from rfl, cut_any, ← List.map_take]
      refine ⟨q, rfl, ⟨_, SqL.of upd_same⟩, for_it (walk_list (K := K) (a := q) (xs := (ns.take 44).map V.int)) (fun i σ H2 => Same H' H2 ∧ H2 q = some (.lst ((ns.take 44).map V.int)) ∧ ∃ (st : Int) (s4 : Option V), σ = [some (.ref a), some (.int k), some (.int c), some (.int st), s4]) ⟨sm_new hq, upd_same, _, _, rfl⟩ (fun i σ H2 _ h => SqL.of h.2.1) ?_ ?_⟩
      · rintro i x σ H2 H2' hi ⟨hs, hq2, st, s4, rfl⟩ ⟨rfl, hx⟩
        rw [List.getElem?_map] at hx
        obtain ⟨z, hz, rfl⟩ : ∃ z, (ns.take 44)[i]? = some z ∧ x = .int z := by
          cases h : (ns.take 44)[i]? with
          | none => rw [h] at hx; cases hx
          | some z => rw [h] at hx; exact ⟨z, rfl, (Option.some.inj hx).symm⟩
        walk_at "s"
        exact ⟨hs, hq2, _, _, rfl⟩
      · rintro σ H2 ⟨hs, hq2, st, s4, rfl⟩
        walk_at "s"
        refine ite2 (fun _ => ?_) (fun _ => ?_)
        · walk_at "s"
          exact ⟨(by show 3 ≤ sizeLine; decide), fun p hp => kk p _ (hs.trans (sm_new hp)) (hs.free hp) (BoxAt.of upd_same)⟩
        · walk_at "s"
          exact ⟨(by show 3 ≤ sizeLine; decide), fun p hp => kk p _ (hs.trans (sm_new hp)) (hs.free hp) (BoxAt.of upd_same)⟩
end
end Toy
set_option maxHeartbeats 2000000
namespace LX
open PySem PySem.Spec PyProof.Rows L2 C8 SX NdefX
noncomputable def upB (h base : Heap) (cs : List Addr) : Heap := hidT h fun b => if (base.get? b).isSome = true ∨ b ∈ cs then none else some (.lst [])
theorem upB_get {h base : Heap} {cs : List Addr} {b : Addr} {o : Obj} (e : h.get? b = some o) (n : (base.get? b).isSome = true ∨ b ∈ cs) : (upB h base cs).get? b = some o := hidT_get e (if_pos n)
theorem of_upB {h base : Heap} {cs : List Addr} {b : Addr} {o : Obj} (e : (upB h base cs).get? b = some o) : h.get? b = some o ∧ ((base.get? b).isSome = true ∨ b ∈ cs) := by
  obtain ⟨e1, e2⟩ := of_hidT e
  refine ⟨e1, ?_⟩
  by_cases n : (base.get? b).isSome = true ∨ b ∈ cs
  · exact n
  · have e2 : (if (base.get? b).isSome = true ∨ b ∈ cs then none else some (HO.lst [])) = none := e2
    rw [if_neg n] at e2; cases e2
structure BCells (cl : List (Str × Addr)) (fr : List Str) (ws : List (Option V)) (base : Heap) : Prop where
  len : ws.length = fr.length
  all : ∀ y c, cl.lookup y = some c → ∃ v, base.IsCell c v
  inj : ∀ x y c, cl.lookup x = some c → cl.lookup y = some c → x = y
  has : ∀ (i : Nat) (y : Str), fr[i]? = some y → ∃ c, cl.lookup y = some c ∧ ∀ v, ws[i]? = some (some v) → ∃ u, RelV v u ∧ base.IsCell c (some u)
theorem BCells.at_ {cl : List (Str × Addr)} {fr : List Str} {ws : List (Option V)} {base : Heap} (b : BCells cl fr ws base) {h : Heap} {H : Hp} (bs : ∀ b o, base.get? b = some o → h.get? b = some o ∧ H b = none) : CellsAt cl fr ws h H :=
  ⟨b.len, fun y c e => let ⟨v, o, e1, e2⟩ := b.all y c e; ⟨(bs _ _ e1).2, v, o, (bs _ _ e1).1, e2⟩, b.inj, fun i y e => let ⟨c, e1, f⟩ := b.has i y e; ⟨c, e1, fun v hv => let ⟨u, r, o, e2, e3⟩ := f v hv; ⟨u, r, o, (bs _ _ e2).1, e3⟩⟩⟩
section
variable {X : Cx} {pins : List (Addr × Obj)} {σ : L2.St} {H : Hp} {s : Shared}
theorem funs_up {h base : Heap} {cs : List Addr} : ∀ {l : List Env}, h.FunFrames base l → (∀ b ∈ frs l, b ∉ cs) → h.FunFrames (upB h base cs) l
  | [], _, _ => trivial
  | env :: rest, ⟨a, ⟨L, o, e1, e2, e3, e4⟩, r⟩, n => by
    have hm : L ∈ frs (env :: rest) := by unfold frs; rw [List.filterMap_cons, e1]; exact List.mem_cons_self
    refine ⟨a, ⟨L, o, e1, ?_, e3, e4⟩, funs_up r fun b hb => n b ?_⟩
    · cases q : (upB h base cs).get? L with
      | none => rfl
      | some o' =>
        rcases (of_upB q).2 with z | z
        · rw [e2] at z; cases z
        · exact absurd z (n L hm)
    · unfold frs at hb ⊢; rw [List.filterMap_cons, e1]; exact List.mem_cons_of_mem _ hb
theorem env_up (I : Inv X pins σ H s) {cs : List Addr} (hc : ∀ c ∈ cs, ∃ x, X.env.cells.lookup x = some c ∧ X.fn x = true) : Env0 X.prog X.w X.K X.mg (upB s.heap X.base cs) X.A X.stack s H := by
  have e0 := I.env0
  have k : ∀ b o, X.base.get? b = some o → (upB s.heap X.base cs).get? b = some o := fun b o e => upB_get (e0.bs b o e).1 (.inl (by rw [e]; rfl))
  obtain ⟨mb, b1, b2⟩ := e0.mod.blt
  refine ⟨e0.frames, ⟨fun b o e => k b o (e0.mod.kin b o e), e0.mod.glob.keeps k, ⟨mb, b1.keeps k, b2⟩, e0.mod.nolimit.keeps k⟩, fun b o e => ?_, Nat.le_of_eq (hidT_size _ _), funs_up e0.funs fun L hL hm => ?_, e0.frf, e0.hok, e0.bare⟩
  · obtain ⟨e1, n⟩ := of_upB e
    refine ⟨e1, ?_⟩
    rcases n with n | n
    · obtain ⟨o', q⟩ := Option.isSome_iff_exists.mp n
      exact (e0.bs b o' q).2
    · obtain ⟨x, hx, _⟩ := hc b n
      exact I.freeC x b hx
  · obtain ⟨x, hx, hf⟩ := hc L hm
    have above := I.ok.cab x L hf hx
    have out : ∀ l : List Env, X.s_0.heap.FunFrames X.base l → L ∈ frs l → False := fun l => by
      induction l with
      | nil => intro _ h; simp [frs] at h
      | cons env rest ih =>
        rintro ⟨_, ⟨M, o, e1, _, e3, _⟩, r⟩ h
        unfold frs at h; rw [List.filterMap_cons, e1] at h
        rcases List.mem_cons.mp h with z | z
        · have := Heap.lt_size e3
          rw [← z] at this
          exact Nat.lt_irrefl _ (Nat.lt_of_lt_of_le this above)
        · exact ih r z
    rcases I.ok.stk with e | ⟨e, ef⟩
    · rw [e] at hL; exact out _ I.ok.funs hL
    · rw [e] at hL
      unfold frs at hL; rw [List.filterMap_cons, ef] at hL
      rcases List.mem_cons.mp hL with z | z
      · obtain ⟨m, ⟨o, es, ep, e1, e2, _⟩, _⟩ := I.loc
        obtain ⟨v, o', q1, q2⟩ := I.cell x L hx
        rw [z, e1] at q1
        cases q1
        rw [e2] at q2; cases q2
      · exact out _ I.ok.funs z
theorem cells_up (I : Inv X pins σ H s) {cl : List (Str × Addr)} {fr : List Str} {js : List Nat} (c : Caps X cl fr js) : BCells cl fr (js.map (slotAt σ)) (upB s.heap X.base (cl.map (·.2))) := by
  have C := cells_of I c
  have mem : ∀ {y : Str} {a : Addr}, cl.lookup y = some a → a ∈ cl.map (·.2) := fun {y a} h => by
    obtain ⟨l1, l2, e, _⟩ := List.lookup_eq_some_iff.mp h
    rw [e]; simp
  refine ⟨C.len, fun y a e => ?_, C.inj, fun i y e => ?_⟩
  · obtain ⟨_, v, o, e1, e2⟩ := C.all y a e
    exact ⟨v, o, upB_get e1 (.inr (mem e)), e2⟩
  · obtain ⟨a, e1, f⟩ := C.has i y e
    exact ⟨a, e1, fun v hv => let ⟨u, r, o, e2, e3⟩ := f v hv; ⟨u, r, o, upB_get e2 (.inr (mem e1)), e3⟩⟩
def tUp (S : List (Option V) → Sp → Prop) (js : List Nat) (t : TA) : TE := fun σ H Q => t σ H fun vs H1 => ∃ sp, S (js.map (slotAt σ)) sp ∧ sp vs H1 Q C8.E0
theorem pe_cUp {k j : Nat} {g : Addr} {x : Str} {p pos : Pos} {e : Expr} {es : List Expr} {t : TA} {cl : List (Str × Addr)} {fr : List Str} {js : List Nat} {S : List (Option V) → Sp → Prop} (named : X.mg x = some (.ref g)) (kept : PySem.W.keepIn X.K (.ref g) = true)
    (cp : X.Ok → Caps X cl fr js) (hfn : ∀ y c, cl.lookup y = some c → X.fn y = true)
    (hS : ∀ ws sp (base' : Heap), S ws sp → X.K.In base' → base'.Ns mainGlobals X.mg → BCells cl fr ws base' → Cal X.prog X.w X.K X.mg base' k x sp []) (room : Room j X.A) (hk : k ≤ j) (hg : Gl X x) (ha : PA X (e :: es) t) (nd : cl.map (·.1) |>.Nodup) (hdb : (x == ("__debug__" : Str)) = false := by decide)
    (he : starEach (e :: es) X.env = (false, eval e X.env) :: starEach es X.env := by rfl) (hpl : (backTo pos (starEach es X.env)).any (·.1) = false := by rfl) : PE X (.Call (.Name x p) (e :: es) [] pos) (tUp S js t) := by
  constructor
  intro pins s σ H Q I want
  refine wpAny_Call_Name_kw (ld_glob I hg named ?_ hdb)
  refine PySem.W.callWith_K (h₀ := X.base) I.ok.mod.kin kept (thn (ha.run pos pins s σ H _ I want) ?_) he hpl
  rintro us s1 ⟨vs, H1, I1, rel, sp, s0, q⟩
  refine ⟨I1.kIn, ?_⟩
  have C := cp I1.ok
  have hcs : ∀ c ∈ cl.map (·.2), ∃ x, X.env.cells.lookup x = some c ∧ X.fn x = true := fun c hc => by
    obtain ⟨⟨y, c'⟩, hm, rfl⟩ := List.mem_map.mp hc
    have hl : cl.lookup y = some c' := by
      clear C hfn hS cp
      induction cl with
      | nil => cases hm
      | cons a r ih =>
        obtain ⟨z, d⟩ := a
        rw [List.map_cons, List.nodup_cons] at nd
        rcases List.mem_cons.mp hm with h | h
        · cases h; exact List.lookup_cons_self ..
        · have hne : (y == z) = false := by
            refine beq_eq_false_iff_ne.mpr fun e => nd.1 ?_
            rw [← e]; exact List.mem_map_of_mem (f := (·.1)) h
          rw [List.lookup_cons, hne]
          exact ih nd.2 h (List.mem_map_of_mem (f := (·.2)) h)
    exact ⟨y, C.sub y c' hl, hfn y c' hl⟩
  have E1 := env_up I1 hcs
  obtain ⟨f, fd, ps, ds, F, named', _, bd, dv⟩ := (hS _ sp _ s0 E1.mod.kin E1.mod.glob (cells_up I1 C)).ex
  rw [named] at named'
  cases named'
  cases dv
  have count : (us ++ []).length = ps.length := by rw [List.append_nil, ← rel.length]; exact F.len _ _ _ _ q
  have bs := bd s1 us I1.kIn count
  rw [List.append_nil] at bs
  refine wpAny_call (codeAny_mono (F.run X.A X.stack s1 H1 ⟨us, []⟩ us vs Q C8.E0 (room.mono hk) E1 bs rel q) fun r t' got => ?_)
  match r, got with
  | .ok (.ret u), got => exact I1.after got
end
def CV (P : Program) (w : World) (K : PySem.W.Frag) (mg : Str → Option Value) (base : Heap) (k : Nat) (g : Addr) (tr : Hp → Prop) (sp : Sp) : Prop :=
  Held P w K mg base k g sp ∨
    ∃ (F : NF) (ps fr : List Str) (ws : List (Option V)) (nsp : List (Option V) → Sp), NOk P w K mg base C8.CX0 k g F ps fr nsp ∧ (∀ vs H Q, tr H → sp vs H Q C8.E0 → nsp ws vs H Q C8.E0) ∧ BCells F.cl fr ws base ∧ ∀ H, tr H → H g = some (FnO g F) ∧ H F.c = some (LamX.CodeO F.c F.qual)
def tCallV (i : Nat) (g : Addr) (tr : Hp → Prop) (sp : Sp) (t : TA) : TE := fun σ H Q => σ[i]? = some (some (.ref g)) ∧ tr H ∧ t σ H fun vs H1 => tr H1 ∧ sp vs H1 Q C8.E0
theorem pe_callV {X : Cx} {k j i : Nat} {g : Addr} {tr : Hp → Prop} {sp : Sp} {x : Str} {p pos : Pos} {e : Expr} {es : List Expr} {t : TA} (c : CV X.prog X.w X.K X.mg X.base k g tr sp) (room : Room j X.A) (hk : k ≤ j) (hN : X.N[i]? = some x) (hv : Vis X.env.scope x) (ha : PA X (e :: es) t)
    (hd : (x == ("__debug__" : Str)) = false := by decide) (hcd : (x == ("__classdict__" : Str)) = false := by decide)
    (he : starEach (e :: es) X.env = (false, eval e X.env) :: starEach es X.env := by rfl) (hpl : (backTo pos (starEach es X.env)).any (·.1) = false := by rfl) : PE X (.Call (.Name x p) (e :: es) [] pos) (tCallV i g tr sp t) := by
  constructor
  rintro pins s σ H Q I ⟨hs, ht, want⟩
  rcases c with ⟨fd, ps, F, kept, bd⟩ | ⟨F, ps, fr, ws, nsp, N, hsp, B, htr⟩
  · have F' : FnOk X.prog X.w X.K X.mg X.base (fun _ _ _ _ _ _ => False) k g fd ps (fun vs H Q E => tr H ∧ sp vs H Q E) := F.imp fun _ _ _ _ q => q.2
    refine (pe_callL (i := i) (dvs := []) (E := fun _ _ _ => False) F' (room.mono hk) hN hv kept bd .nil (fun _ _ _ _ _ _ _ z => z.elim) ha hd hcd he hpl).run pins s σ H Q I ⟨hs, ?_⟩
    have e0 : (fun (vs : List V) (H1 : Hp) => tr H1 ∧ sp (vs ++ []) H1 Q fun _ _ _ => False) = fun vs H1 => tr H1 ∧ sp vs H1 Q C8.E0 := by funext vs H1; rw [List.append_nil]; rfl
    show t σ H fun vs H1 => tr H1 ∧ sp (vs ++ []) H1 Q fun _ _ _ => False
    rw [e0]; exact want
  · refine wpAny_Call_Name_kw (thn ((pe_var (pos := p) hN hv hd hcd).run pins s σ H (fun v H1 => v = .ref g ∧ H1 = H) I ⟨.ref g, hs, rfl, rfl⟩) fun u s1 ⟨v, H1, I1, r1, ev, eH⟩ => ?_)
    subst ev
    rw [eH] at I1
    obtain rfl : u = Value.ref g := r1
    refine PySem.W.callWith_F (first := []) (fnAt_of I1 (htr H ht).1) (thn (ha.run pos pins s1 σ H _ I1 want) fun us s2 ⟨vs, H2, I2, r, h1, q⟩ => ⟨fnAt_of I2 (htr H2 h1).1, ?_⟩) he hpl
    refine wpAny_call (codeAny_mono (N.run X.A X.stack s2 H2 us vs ws Q C8.E0 (room.mono hk) I2.env0 (htr H2 h1).1 (htr H2 h1).2 (B.at_ I2.env0.bs) r (hsp vs H2 Q h1 q)) fun r t' got => ?_)
    match r, got with
    | .ok (.ret u), got => exact I2.after got
theorem calC {P : Program} {w : World} {K : PySem.W.Frag} {mg : Str → Option Value} {base : Heap} {x : Str} {st : Stmt} {f : Addr} {fd : FuncData} {N ps : List Str} {ds : List Value} {dvs : List V} {k : Nat} {sp : Sp} {cdv : Value} (F : C8.Def K mg x st f fd) (hc : fd.code = cdv) (b : Binds K fd ps ds) (d : Vals dvs ds) (S : FnScope N ps (C8.fnScope st)) (len : ∀ vs H Q E, sp vs H Q E → vs.length = ps.length)
    (hbody : ∀ (A : Around) (outer : List Env) (s : Shared) (H : Hp) (vs : List V) (Q : VK) (E : XK), Room k (A.deeper (envOfC x (C8.fnScope st) s.heap.objs.size f cdv)) → sp vs H Q E →
      ∃ t, PSs (cxOf C8.CX0 P w K mg base N x (C8.fnScope st) f cdv A outer s H E).nox (C8.fnBody st) t ∧ t { nx := fun _ H' => Q .non H', rt := Q } (start N vs) H) : C8.Cal P w K mg base (k + 1) x sp dvs := by
  refine ⟨f, fd, ps, ds, ?_, F.mgf, F.kp, b, d⟩
  obtain ⟨oc, od, dV, kV, doc, pm, an, cdv', ct, osl, rfl, lk, hcd⟩ := F.fn.ex
  obtain rfl : cdv' = cdv := hc
  refine fn_of lk hcd S len fun A outer s H vs Q E hr hsp => ?_
  obtain ⟨t, h, q⟩ := hbody A outer s H vs Q E hr hsp
  exact ⟨t, h.nox, q⟩
end LX
set_option maxHeartbeats 2000000
namespace LX
open PySem PySem.Spec PyProof.Rows L2 C8 SX NdefX
def takenN (ok : Nat → Bool) (n : Nat) : List Nat := (List.range n).filter ok
theorem takenN_yes {ok : Nat → Bool} {n : Nat} (h : ok n = true) : takenN ok (n + 1) = takenN ok n ++ [n] := by
  unfold takenN; rw [List.range_succ, List.filter_append, List.filter_cons_of_pos h]; rfl
theorem takenN_no {ok : Nat → Bool} {n : Nat} (h : ok n = false) : takenN ok (n + 1) = takenN ok n := by
  unfold takenN; rw [List.range_succ, List.filter_append, List.filter_cons_of_neg (by rw [h]; exact Bool.false_ne_true)]; exact List.append_nil _
theorem takenN_le {ok : Nat → Bool} {n : Nat} : (takenN ok n).length ≤ n := by
  unfold takenN
  exact Nat.le_trans (List.length_filter_le _ _) (by rw [List.length_range]; exact Nat.le_refl _)
theorem lc_keepF {Rel : Hp → Hp → Prop} {J : It} {n : Nat} {G : Hp → Prop} {Y : Nat → Hp → V → Hp → Prop} {H1 : Hp} (kp : Keep Rel H1) (w : Walk J n G Y) {g : TG} {tt : TT} {te : TE} {vs : List Nat} {σ : L2.St} {D : Addr} {Qd : Hp → Prop} (hD : H1 D = none) (hn : n < sizeLine)
    (ok : Nat → Bool) (Good : Nat → V → Hp → Prop) (hG : ∀ H, Rel H1 H → G H)
    (st : ∀ i y H H', Rel H1 H → Rel H H' → Good i y H → Good i y H') (pt : ∀ i y H acc o, Rel H1 H → H D = some (.lst acc) → Good i y H → Good i y (upd H D o))
    (hs : ∀ i x H H' acc (N : Hp → Prop) (R : V → Hp → Prop), i < n → Rel H1 H → H D = some (.lst acc) → Y i H x H' → (ok i = true → ∀ y H4, Rel H H4 → Good i y H4 → R y H4) → (ok i = false → ∀ H4, Rel H H4 → N H4) →
      g x (wipe σ vs) H' fun σ2 H2 => wipe σ2 vs = wipe σ vs ∧ tt σ2 H2 fun b H3 => if b = true then te σ2 H3 R else N H3)
    (hd : ∀ ys H, ys.length = (takenN ok n).length → (∀ (j k : Nat) y, (takenN ok n)[j]? = some k → ys[j]? = some y → Good k y H) → Rel H1 H → H D = some (.lst ys) → Qd H) :
    ∃ W : Nat → Nat → Hp → Prop, (∃ m, W 0 m (upd H1 D (.lst []))) ∧ ∀ i m H, W i m H →
      (J.stop i H ∧ Qd H) ∨ (J.go i H ∧ ∃ Nx : Hp → Prop, (∀ H', Nx H' → ∃ m', m' < m ∧ W (i + 1) m' H') ∧ ∀ x H', J.yld i H x H' → g x (wipe σ vs) H' fun σ2 H2 => wipe σ2 vs = wipe σ vs ∧ tt σ2 H2 fun b H3 =>
        if b = true then te σ2 H3 fun y H4 => ∃ acc, H4 D = some (.lst acc) ∧ acc.length < sizeLine ∧ Nx (upd H4 D (.lst (acc ++ [y]))) else Nx H3) := by
  refine lc_it w (fun i H => ∃ acc, acc.length = (takenN ok i).length ∧ H D = some (.lst acc) ∧ Rel H1 H ∧ ∀ (j k : Nat) y, (takenN ok i)[j]? = some k → acc[j]? = some y → Good k y H) ⟨[], rfl, upd_same, kp.put _ _ _ kp.refl hD, fun j k y _ e => by simp at e⟩
    (fun i H _ ⟨_, _, _, r, _⟩ => hG H r) (fun i x H H' hi ⟨acc, hl, hDa, r, hg⟩ hy => ?_) (fun H ⟨acc, hl, hDa, r, hg⟩ => hd acc H hl hg r hDa)
  have hle := takenN_le (ok := ok) (n := i)
  refine hs i x H H' acc _ _ hi r hDa hy (fun ho y H4 r4 gy => ?_) (fun ho H4 r4 => ?_)
  · have hD4 := kp.get _ _ _ _ r4 hD r hDa
    have r5 := kp.trans _ _ r r4
    refine ⟨acc, hD4, by omega, acc ++ [y], by rw [takenN_yes ho]; simp [hl], upd_same, kp.put _ _ _ r5 hD, fun j k z ek e => ?_⟩
    rw [takenN_yes ho] at ek
    rcases Nat.lt_or_ge j acc.length with h | h
    · rw [List.getElem?_append_left h] at e
      rw [List.getElem?_append_left (by omega)] at ek
      exact pt _ _ _ _ _ r5 hD4 (st _ _ _ _ r r4 (hg j k z ek e))
    · rw [List.getElem?_append_right h] at e
      rw [List.getElem?_append_right (by omega)] at ek
      have hj : j - acc.length = 0 := by
        rcases Nat.lt_or_ge (j - acc.length) 1 with z | z
        · omega
        · rw [List.getElem?_eq_none (by simpa using z)] at e; cases e
      have hj2 : j - (takenN ok i).length = 0 := by omega
      rw [hj] at e; rw [hj2] at ek
      obtain rfl : y = z := Option.some.inj e
      obtain rfl : i = k := Option.some.inj ek
      exact pt _ _ _ _ _ r5 hD4 gy
  · have hD4 := kp.get _ _ _ _ r4 hD r hDa
    exact ⟨acc, by rw [takenN_no ho]; exact hl, hD4, kp.trans _ _ r r4, fun j k y ek e => by rw [takenN_no ho] at ek; exact st _ _ _ _ r r4 (hg j k y ek e)⟩
end LX
set_option maxHeartbeats 2000000
namespace LX
open PySem PySem.Spec PyProof.Rows L2 C8 SX
theorem S_contains (sg : List Nat) (c : Nat) : (S sg).cps.contains c = decide (c ∈ sg) := by
  rw [Bool.eq_iff_iff, decide_eq_true_eq, ← Array.contains_toList]
  simp [S]
theorem S_empty {l : List Nat} : S l = S [] ↔ l = [] := by
  constructor
  · intro h
    have : (S l).cps.toList = (S []).cps.toList := congrArg (fun z : Str => z.cps.toList) h
    simpa [S] using this
  · rintro rfl; rfl
theorem takeWhile_all {p : Nat → Bool} : ∀ {l : List Nat}, (∀ c ∈ l, p c = true) → l.takeWhile p = l
  | [], _ => rfl
  | c :: l, h => by rw [List.takeWhile_cons, if_pos (h c List.mem_cons_self), takeWhile_all fun d hd => h d (List.mem_cons_of_mem _ hd)]
theorem takeWhile_short {p : Nat → Bool} : ∀ {l : List Nat}, ¬ (∀ c ∈ l, p c = true) → (l.takeWhile p).length < l.length ∧ ∃ d r, l.drop (l.takeWhile p).length = d :: r ∧ p d = false
  | [], h => absurd (fun _ h => nomatch h) h
  | c :: l, h => by
    by_cases hc : p c = true
    · have h' : ¬ ∀ c ∈ l, p c = true := fun q => h fun d hd => by
        rcases List.mem_cons.mp hd with rfl | z
        · exact hc
        · exact q d z
      obtain ⟨i1, d, r, i2, i3⟩ := takeWhile_short h'
      rw [List.takeWhile_cons, if_pos hc]
      exact ⟨Nat.succ_lt_succ i1, d, r, i2, i3⟩
    · rw [List.takeWhile_cons, if_neg hc]
      exact ⟨Nat.succ_pos _, c, l, rfl, by simpa using hc⟩
theorem strip_nil {l sg : List Nat} : Txt.stripChars (S l) (S sg) = S [] ↔ ∀ c ∈ l, c ∈ sg := by
  unfold Txt.stripChars Txt.stripBy stripSame stripped stripLo stripHi
  have eg : (S sg).cps.contains = fun c => decide (c ∈ sg) := funext fun c => S_contains sg c
  have el : (S l).cps.toList = l := rfl
  have en : (S l).length = l.length := S_len l
  rw [eg, if_pos rfl, if_pos rfl, el, en]
  generalize hp : (fun c => decide (c ∈ sg)) = p
  have hpc : ∀ c, p c = true ↔ c ∈ sg := fun c => by rw [← hp]; exact decide_eq_true_iff
  by_cases h : ∀ c ∈ l, p c = true
  · refine ⟨fun _ c hc => (hpc c).mp (h c hc), fun _ => ?_⟩
    rw [takeWhile_all h, List.drop_length, List.reverse_nil, List.takeWhile_nil, List.length_nil, Nat.sub_zero]
    by_cases e : l = []
    · subst e; rfl
    · have : l.length ≠ 0 := fun z => e (List.length_eq_zero_iff.mp z)
      rw [if_neg (by simpa using this)]
      show (⟨(S l).cps.extract l.length l.length⟩ : Str) = S []
      simp [S]
  · obtain ⟨i1, d, r, i2, i3⟩ := takeWhile_short h
    refine ⟨fun e => absurd e ?_, fun q => absurd (fun c hc => (hpc c).mpr (q c hc)) h⟩
    rw [i2]
    have hr : ¬ ∀ c ∈ (d :: r).reverse, p c = true := fun q => by have := q d (by simp); rw [i3] at this; cases this
    have j1 := (takeWhile_short hr).1
    have hlen : (d :: r).length = l.length - (l.takeWhile p).length := by rw [← i2, List.length_drop]
    rw [List.length_reverse] at j1
    by_cases same : ((l.takeWhile p).length == 0 && l.length - ((d :: r).reverse.takeWhile p).length == l.length) = true
    · rw [if_pos same]
      intro e
      have := S_empty.mp e
      subst this
      exact absurd i1 (by simp)
    · rw [if_neg same]
      intro e
      have e2 : ((S l).cps.extract (l.takeWhile p).length (l.length - ((d :: r).reverse.takeWhile p).length)).size = 0 := by
        have : (Builtin.Str.strSub (S l) (l.takeWhile p).length (l.length - ((d :: r).reverse.takeWhile p).length)).cps = (S []).cps := by rw [e]
        rw [show (S l).cps.extract (l.takeWhile p).length (l.length - ((d :: r).reverse.takeWhile p).length) = (S []).cps from this]; rfl
      rw [Array.size_extract] at e2
      have e3 : (S l).cps.size = l.length := by simp [S]
      rw [e3] at e2
      omega
theorem strip_eq {l sg : List Nat} : decide (Txt.stripChars (S l) (S sg) = S []) = decide (∀ c ∈ l, c ∈ sg) := decide_eq_decide.mpr strip_nil
def az : List Nat := (List.range 26).map (· + 97)
theorem az_mem {c : Nat} : c ∈ az ↔ 97 ≤ c ∧ c ≤ 122 := by
  unfold az
  rw [List.mem_map]
  constructor
  · rintro ⟨i, hi, rfl⟩
    have := List.mem_range.mp hi
    omega
  · rintro ⟨h1, h2⟩
    exact ⟨c - 97, List.mem_range.mpr (by omega), by omega⟩
theorem s_az : (Str.ofString "abcdefghijklmnopqrstuvwxyz") = S az := by decide +kernel
end LX
set_option maxHeartbeats 2000000
namespace LX
open PySem PySem.Spec PyProof.Rows L2 C8 SX
def outD : Expr → Scope
  | .DictComp _ _ _ s _ => s
  | _ => { kind := .function, names := [], isGenerator := false, isCoroutine := false }
end LX
set_option maxHeartbeats 1000000
namespace Toy
open PySem L2 C8 SX LX
local macro_rules | `(tactic| walk_at "c") => `(tactic| refine And.intro (by first | (show (0 : Int) < _; omega) | exact Or.inr ⟨by decide, by decide⟩ | exact Or.inl ⟨by decide, by decide⟩ | (exact ⟨by omega, by omega⟩)) ?_)
local macro_rules | `(tactic| walk_at "s1") => `(tactic| first | refine ⟨_, rfl, ?_⟩ | refine ⟨_, _, rfl, rfl, ?_⟩ | refine .inl ⟨_, rfl, ?_⟩ | walk_at "c")
local macro_rules | `(tactic| walk_at "s") => `(tactic| repeat (walk_at "s1"))
section
variable {P : Program} {w : World} {K : PySem.W.Frag} {mg : Str → Option Value} {base : Heap}
abbrev s_isseq : Stmt := top 10
abbrev n_isseq : List Str := ["value"]
theorem sc_isseq : FnScope n_isseq ["value"] (fnScope s_isseq) := fnScope_by (by decide +kernel)
def spIsSeq : Sp := fun vs H Q _ => ∃ (p : Addr) (b : Bool) (xs : List V), vs = [.ref p] ∧ H p = some (seqB b xs) ∧ ∀ H', Same H H' → Q (.bl true) H'
theorem ok_isseq (T : BT mg) {f : Addr} {fd : FuncData} (F : Def K mg "is_sequence" s_isseq f fd) (b : Binds K fd ["value"] []) : Cal P w K mg base 1 "is_sequence" spIsSeq [] := by
  refine cal0 F b .nil sc_isseq (fun vs H Q E h => ?_) (fun cdv A outer s H vs Q E hr h => ?_)
  · obtain ⟨p, b, xs, rfl, _⟩ := h; rfl
  · obtain ⟨p, b, xs, rfl, hp, k⟩ := h
    refine ⟨_, (pss_one (ps_ret (pe_callB (isiTK K) (by rfl) T.m_isinstance PyProof.Rows.boot_isinstance (pa_cons (pv 0) (pa_cons (pe_tup (pa_cons (pe_bltn (v := .ty "list") (by rfl) T.m_list PyProof.Rows.boot_list rfl) (pa_cons (pe_bltn (v := .ty "tuple") (by rfl) T.m_tuple PyProof.Rows.boot_tuple rfl) pa_nil))) pa_nil))))
      ), ?_⟩
    walk_at "s"
    refine ⟨by decide, fun t ht => ?_⟩
    have hp2 := (sm_new (o := .tup [.ty "list", .ty "tuple"]) ht) _ _ hp
    cases b
    · exact ⟨_, t, _, _, _, true, rfl, upd_same, .cons (.ty _) (.cons (.ty _) .nil), .base (.tup hp2), kitAny_cons (b := false) (kit_ty (by decide +kernel)) (fun _ => kitAny_cons (b := true) (kit_ty (by decide +kernel)) (fun h => nomatch h) (fun _ => rfl)) (fun h => nomatch h), k _ (sm_new ht)⟩
    · exact ⟨_, t, _, _, _, true, rfl, upd_same, .cons (.ty _) (.cons (.ty _) .nil), .base (.lst hp2), kitAny_cons (b := true) (kit_ty (by decide +kernel)) (fun h => nomatch h) (fun _ => rfl), k _ (sm_new ht)⟩
abbrev s_isrow : Stmt := top 13
abbrev n_isrow : List Str := ["value", "signs"]
theorem sc_isrow : FnScope n_isrow ["value", "signs"] (fnScope s_isrow) := fnScope_by (by decide +kernel)
instance (sg l : List Nat) : Decidable (Ov sg l) := by unfold Ov; infer_instance
def spIsRow : Sp := fun vs H Q _ => ∃ (sg l : List Nat), vs = [.str (S l), .str (S sg)] ∧ l.length ≤ 1000 ∧ Q (.bl (decide (Ov sg l))) H
theorem ok_isrow (T : BT mg) {f : Addr} {fd : FuncData} (F : Def K mg "is_row" s_isrow f fd) (b : Binds K fd ["value", "signs"] []) : Cal P w K mg base 1 "is_row" spIsRow [] := by
  refine cal0 F b .nil sc_isrow (fun vs H Q E h => ?_) (fun cdv A outer s H vs Q E hr h => ?_)
  · obtain ⟨sg, l, rfl, _⟩ := h; rfl
  · obtain ⟨sg, l, rfl, hl, k⟩ := h
    refine ⟨_, (pss_one (ps_ret (pe_and (pe_callB (isiK K) (by rfl) T.m_isinstance PyProof.Rows.boot_isinstance (pa_cons (pv 0) (pa_cons (pe_bltn (v := .ty "str") (by rfl) T.m_str PyProof.Rows.boot_str rfl) pa_nil))) (pe_one (pe_cmpR op_eq (pe_bm PySem.F.plainAttrs_str PySem.F.slot_str_strip PySem.F.type_str_strip mt_stripChars (pv 0) (pa_cons (pv 1) pa_nil)) pe_str (nomark _)))))
      ), ?_⟩
    walk_at "s"
    refine ⟨_, _, _, _, true, rfl, .ty _, .base (.str _), kit_ty (by decide +kernel), true, rfl, ?_⟩
    refine iteT ?_
    refine ⟨_, rfl, rfl, _, rfl, S l, S sg, rfl, rfl, by rw [S_len]; exact sz hl (by decide), rfl, ?_⟩
    have e : V.bl (decide (V.str (Txt.stripChars (S l) (S sg)) = V.str (Str.ofString ""))) = V.bl (decide (Ov sg l)) := by
      rw [s_nil]
      refine congrArg V.bl (decide_eq_decide.mpr ?_)
      rw [V.str.injEq]
      exact strip_nil
    show Q (V.bl (decide (V.str (Txt.stripChars (S l) (S sg)) = V.str (Str.ofString "")))) H
    rw [e]
    exact k
abbrev s_isletters : Stmt := top 11
abbrev n_isletters : List Str := ["value"]
theorem sc_isletters : FnScope n_isletters ["value"] (fnScope s_isletters) := fnScope_by (by decide +kernel)
theorem ov_az {l : List Nat} : Ov az l ↔ ∀ c ∈ l, 97 ≤ c ∧ c ≤ 122 := ⟨fun h c hc => az_mem.mp (h c hc), fun h c hc => az_mem.mpr (h c hc)⟩
def spIsLetters : Sp := fun vs H Q _ => ∃ (l : List Nat), vs = [.str (S l)] ∧ l.length ≤ 1000 ∧ Q (.bl (decide (Ov az l))) H
theorem ok_isletters (T : BT mg) {tz : Tok} (mgZ : mg "_LETTERS" = some (.str (S az) tz)) (c_isrow : Cal P w K mg base 1 "is_row" spIsRow []) {f : Addr} {fd : FuncData} (F : Def K mg "is_letters" s_isletters f fd) (b : Binds K fd ["value"] []) : Cal P w K mg base 2 "is_letters" spIsLetters [] := by
  refine cal0 F b .nil sc_isletters (fun vs H Q E h => ?_) (fun cdv A outer s H vs Q E hr h => ?_)
  · obtain ⟨l, rfl, _⟩ := h; rfl
  · obtain ⟨l, rfl, hl, k⟩ := h
    refine ⟨_, (pss_one (ps_ret (pe_c c_isrow hr (by first | decide | omega) (by rfl) (pa_cons (pv 0) (pa_cons (pe_glob (v := .str (S az)) (by rfl) mgZ ⟨_, rfl⟩) pa_nil))))
      ), ?_⟩
    exact ⟨_, rfl, az, l, rfl, hl, k⟩
abbrev s_issigns : Stmt := top 12
abbrev n_issigns : List Str := ["value", "one", "other"]
theorem sc_issigns : FnScope n_issigns ["value"] (fnScope s_issigns) := fnScope_by (by decide +kernel)
def spIsSigns : Sp := fun vs H Q _ => ∃ (sg : List Nat), vs = [.str (S sg)] ∧ Sg sg ∧ ∀ H', Same H H' → Q (.bl true) H'
theorem sg_asc {sg : List Nat} (h : Sg sg) (i c d : Nat) (e1 : sg[i]? = some c) (e2 : sg[i + 1]? = some d) : c < d := by
  obtain ⟨a1, a2⟩ := List.getElem?_eq_some_iff.mp e1
  obtain ⟨b1, b2⟩ := List.getElem?_eq_some_iff.mp e2
  have := List.pairwise_iff_getElem.mp h.1 i (i + 1) a1 b1 (Nat.lt_succ_self i)
  rw [a2, b2] at this; exact this
theorem ok_issigns (T : BT mg) (c_isletters : Cal P w K mg base 2 "is_letters" spIsLetters []) {f : Addr} {fd : FuncData} (F : Def K mg "is_signs" s_issigns f fd) (b : Binds K fd ["value"] []) : Cal P w K mg base 3 "is_signs" spIsSigns [] := by
  refine cal0 F b .nil sc_issigns (fun vs H Q E h => ?_) (fun cdv A outer s H vs Q E hr h => ?_)
  · obtain ⟨sg, rfl, _⟩ := h; rfl
  · obtain ⟨sg, rfl, hm, k⟩ := h
    have hlen : 1 ≤ sg.length ∧ sg.length ≤ 3 := ⟨hm.2.1, hm.2.2.1⟩
    refine ⟨_, (pss_cons (ps_if (PW.pt (pw_or (pt_not (pt_val (pe_c c_isletters hr (by first | decide | omega) (by rfl) (pa_cons (pv 0) pa_nil)))) (pw_or (pt_cmpR op_lt (pe_callB call_len_str (by rfl) T.m_len PySem.boot_len (pa_cons (pv 0) pa_nil)) pe_int (nomark _)) (pw_or1 (pt_cmpR op_gt (pe_callB call_len_str (by rfl) T.m_len PySem.boot_len (pa_cons (pv 0) pa_nil)) pe_int (nomark _)))))) 
        (pss_one (ps_ret pe_bl)
        )
       pss_nil)
      (pss_one (ps_ret (pe_callB (cr_all rfl) (by rfl) T.m_all PyProof.Rows.boot_all (pa_cons (pe_lc (own := [("one", 1), ("other", 2)]) rfl sc_issigns.nd (pi_zipX (by rfl) T.m_zip (pa_cons (pv 0) (pa_cons (pe_slice sl_txt (pv 0) (po_some pe_int) po_none) pa_nil))) (blkOk_by (N := n_issigns) (sc := fnScope s_issigns) (by decide +kernel)) (fun _ _ _ _ _ => (tupK K 2 (pgs_cons (pg_name (i := 1) sc_issigns.nd rfl (.inl rfl)) (pgs_cons (pg_name (i := 2) sc_issigns.nd rfl (.inl rfl)) pgs_nil)))) (fun _ _ _ _ _ => pts_nil) (fun _ _ _ _ _ => (pe_cmpR op_lt_str (pv 1) (pv 2) (nomark _)))) pa_nil)))
      )), ?_⟩
    refine ⟨_, rfl, sg, rfl, by omega, ?_⟩
    rw [decide_eq_true (ov_az.mpr hm.2.2.2)]
    have hsl : (S sg).length ≤ sizeLine := by rw [S_len]; exact Nat.le_trans hlen.2 (by decide)
    walk_at "s"
    refine ⟨hsl, ?_⟩
    walk_at "s"
    refine iteN (by rw [S_len]; exact decide_eq_false (by omega)) ?_
    walk_at "s"
    refine ⟨hsl, ?_⟩
    walk_at "s"
    refine iteN (by rw [S_len]; exact decide_eq_false (by omega)) ?_
    walk_at "s"
    refine ⟨hsl, _, _, .txt (S sg), .txt (S (sg.drop 1)), rfl, rfl, slice_from (by decide), trivial, trivial, fun D hD => ?_⟩
    refine lc_keep (n := min (sg.map fun c => V.str (S [c])).length ((sg.drop 1).map fun c => V.str (S [c])).length) keep_same walk_zipX hD (by rw [List.length_map]; exact Nat.lt_of_le_of_lt (Nat.min_le_left _ _) (small1000 (Nat.le_trans hlen.2 (by decide)))) (fun _ y => y = .bl true) (fun _ _ => ⟨rfl, rfl⟩) (fun i x H2 H3 R hii r1 hy hR => ?_) (fun ys H2 hly hg r1 hDs => ?_)
    · obtain ⟨t, x1, x2, rfl, ht, rfl, e1, e2⟩ := hy
      have e1 : (sg.map fun c => V.str (S [c]))[i]? = some x1 := e1
      have e2 : ((sg.drop 1).map fun c => V.str (S [c]))[i]? = some x2 := e2
      rw [List.getElem?_map] at e1 e2
      rw [List.getElem?_drop] at e2
      cases q1 : sg[i]? with
      | none => rw [q1] at e1; cases e1
      | some c =>
        cases q2 : sg[1 + i]? with
        | none => rw [q2] at e2; cases e2
        | some d =>
          rw [q1] at e1; rw [q2] at e2
          cases e1; cases e2
          have hcd := sg_asc hm i c d q1 (by rw [Nat.add_comm]; exact q2)
          refine ⟨t, _, rfl, .inl (.inl upd_same), rfl, _, _, rfl, _, _, rfl, rfl, rfl, ?_⟩
          walk_at "s"
          refine hR _ _ (sm_new ht) (congrArg V.bl ?_)
          show decide (([c] : List Nat) < [d]) = true
          rw [decide_eq_true_eq, List.cons_lt_cons_iff]
          exact .inl hcd
    · refine ⟨D, List.replicate ys.length true, rfl, SqL.of (by rw [← all_true hg]; exact hDs), ?_⟩
      rw [rep_all]
      exact k H2 r1
abbrev s_isname : Stmt := top 14
abbrev n_isname : List Str := ["value"]
theorem sc_isname : FnScope n_isname ["value"] (fnScope s_isname) := fnScope_by (by decide +kernel)
def no10 : List (List Nat) := [[98, 97, 99, 107], [105, 115], [110, 111, 116], [97, 110, 100], [111, 114], [105, 102], [116, 104, 101, 110], [102, 111, 114], [97, 108, 108], [115, 111, 109, 101]]
def Name (m : List Nat) : Prop := 2 ≤ m.length ∧ m.length ≤ 6 ∧ (∀ c ∈ m, 97 ≤ c ∧ c ≤ 122) ∧ m ∉ no10
instance (m : List Nat) : Decidable (Name m) := by unfold Name; infer_instance
def spIsName : Sp := fun vs H Q _ => ∃ (m : List Nat), vs = [.str (S m)] ∧ m.length ≤ 16000000 ∧ Q (.bl (decide (Name m))) H
theorem ok_isname (T : BT mg) {NN : Addr} (mgN : mg "_NO_NAMES" = some (.ref NN)) (hN : ∀ H, SqT K H NN (txs no10)) (c_isletters : Cal P w K mg base 2 "is_letters" spIsLetters []) {f : Addr} {fd : FuncData} (F : Def K mg "is_name" s_isname f fd) (b : Binds K fd ["value"] []) : Cal P w K mg base 3 "is_name" spIsName [] := by
  refine cal0 F b .nil sc_isname (fun vs H Q E h => ?_) (fun cdv A outer s H vs Q E hr h => ?_)
  · obtain ⟨m, rfl, _⟩ := h; rfl
  · obtain ⟨m, rfl, hm, k⟩ := h
    refine ⟨_, (pss_one (ps_ret (pe_and (pe_callB (isiK K) (by rfl) T.m_isinstance PyProof.Rows.boot_isinstance (pa_cons (pv 0) (pa_cons (pe_bltn (v := .ty "str") (by rfl) T.m_str PyProof.Rows.boot_str rfl) pa_nil))) (pe_and (pe_chain op_le op_le pe_int (pe_callB call_len_str (by rfl) T.m_len PySem.boot_len (pa_cons (pv 0) pa_nil)) pe_int) (pe_and (pe_c c_isletters hr (by first | decide | omega) (by rfl) (pa_cons (pv 0) pa_nil)) (pe_one (pe_cmpR (notInK K) (pv 0) (pe_glob (v := .ref NN) (by rfl) mgN rfl) rfl))))))
      ), ?_⟩
    have hsl : (S m).length ≤ sizeLine := by rw [S_len]; exact Nat.le_trans hm (by decide)
    walk_at "s"
    refine ⟨_, _, _, _, true, rfl, .ty _, .base (.str _), kit_ty (by decide +kernel), true, rfl, ?_⟩
    refine iteT ?_
    have fin : ∀ {b : Bool}, (b = true ↔ Name m) → Q (.bl b) H := fun {b} h => by
      have : b = decide (Name m) := by
        rw [Bool.eq_iff_iff, decide_eq_true_eq]; exact h
      rw [this]; exact k
    refine ⟨_, rfl, S m, rfl, hsl, _, _, rfl, rfl, _, rfl, ?_⟩
    rw [S_len]
    by_cases h2 : 2 ≤ m.length
    · refine iteB (decide_eq_true (by omega)) ?_
      refine ⟨_, _, rfl, rfl, ?_⟩
      by_cases h6 : m.length ≤ 6
      · refine ⟨_, rfl, iteB (decide_eq_true (by omega)) ?_⟩
        refine ⟨_, rfl, m, rfl, by omega, _, rfl, ?_⟩
        by_cases ho : Ov az m
        · refine iteB (decide_eq_true ho) ?_
          refine ⟨_, rfl, NN, txs no10, rfl, .inr (hN H), rfl, flat_txs _, ?_⟩
          rw [inV_txs]
          refine fin ?_
          rw [if_pos rfl, Bool.not_eq_true', decide_eq_false_iff_not]
          exact ⟨fun h => ⟨h2, h6, ov_az.mp ho, h⟩, fun h => h.2.2.2⟩
        · refine iteN (decide_eq_false ho) ?_
          exact fin ⟨fun h => (nomatch h), fun h => absurd (ov_az.mpr h.2.2.1) ho⟩
      · refine ⟨_, rfl, iteN (decide_eq_false (by omega)) ?_⟩
        exact fin ⟨fun h => (nomatch h), fun h => absurd h.2.1 h6⟩
    · refine iteN (decide_eq_false (by omega)) ⟨_, rfl, iteN rfl ?_⟩
      exact fin ⟨fun h => (nomatch h), fun h => absurd h.1 h2⟩
theorem all_of {b : Bool} {xs : List V} {p : Addr} {K : PySem.W.Frag} {H : Hp} (h : H p = some (seqB b xs)) {H' : Hp} (s : Same H H') : SqB K b H' p xs := SqB.of (s _ _ h)
abbrev s_ismarks : Stmt := top 24
abbrev n_ismarks : List Str := ["value", "mark"]
theorem sc_ismarks : FnScope n_ismarks ["value"] (fnScope s_ismarks) := fnScope_by (by decide +kernel)
def spIsMarks : Sp := fun vs H Q _ => ∃ (p : Addr) (b : Bool) (ms : List (List Nat)), vs = [.ref p] ∧ H p = some (seqB b (txs ms)) ∧ 1 ≤ ms.length ∧ ms.length < 60 ∧ ms.Nodup ∧ (∀ m ∈ ms, Name m) ∧ ∀ H', Same H H' → Q (.bl true) H'
theorem ok_ismarks (T : BT mg) (c_isseq : Cal P w K mg base 1 "is_sequence" spIsSeq []) (c_isname : Cal P w K mg base 3 "is_name" spIsName []) {f : Addr} {fd : FuncData} (F : Def K mg "_is_marks" s_ismarks f fd) (b : Binds K fd ["value"] []) : Cal P w K mg base 4 "_is_marks" spIsMarks [] := by
  refine cal0 F b .nil sc_ismarks (fun vs H Q E h => ?_) (fun cdv A outer s H vs Q E hr h => ?_)
  · obtain ⟨p, b, ms, rfl, _⟩ := h; rfl
  · obtain ⟨p, b, ms, rfl, hp, h1, h60, nd, hms, k⟩ := h
    refine ⟨_, (pss_cons (ps_if (PW.pt (pw_or (pt_not (pt_val (pe_c c_isseq hr (by first | decide | omega) (by rfl) (pa_cons (pv 0) pa_nil)))) (pw_or (pt_cmpR op_eq (pe_callB (lenK K) (by rfl) T.m_len PySem.boot_len (pa_cons (pv 0) pa_nil)) pe_int (nomark _)) (pw_or1 (pt_not (pt_val (pe_callB (cr_all rfl) (by rfl) T.m_all PyProof.Rows.boot_all (pa_cons (pe_lc (own := [("mark", 1)]) rfl sc_ismarks.nd (pi_seq (pv 0)) (blkOk_by (N := n_ismarks) (sc := fnScope s_ismarks) (by decide +kernel)) (fun _ _ _ _ _ => (pg_name (i := 1) sc_ismarks.nd rfl (.inl rfl))) (fun _ _ _ _ _ => pts_nil) (fun _ _ _ _ _ => (pe_c c_isname hr (by first | decide | omega) (by rfl) (pa_cons (pv 1) pa_nil)))) pa_nil)))))))) 
        (pss_one (ps_ret pe_bl)
        )
       pss_nil)
      (pss_one (ps_ret (pe_cmpR op_eq (pe_lenSetT rfl (by rfl) T.m_len (by rfl) T.m_set (pv 0)) (pe_callB (lenK K) (by rfl) T.m_len PySem.boot_len (pa_cons (pv 0) pa_nil)) (nomark _)))
      )), ?_⟩
    refine ⟨_, rfl, p, b, txs ms, rfl, hp, fun H1 s1 => ?_⟩
    refine ⟨true, rfl, ?_⟩
    refine iteN rfl ?_
    refine ⟨_, rfl, p, _, rfl, (all_of hp s1).or, rfl, _, rfl, ?_⟩
    refine iteN (by rw [txs_len]; exact decide_eq_false (by show ¬ V.int (ms.length : Int) = V.int 0; intro h; have := V.int.inj h; omega)) ?_
    have hB1 : SqB K b H1 p (txs ms) := all_of hp s1
    refine ⟨_, rfl, p, b, txs ms, rfl, hB1, fun D hD => lc_keep keep_same (walk_seq (K := K) (b := b) (a := p) (xs := txs ms)) hD (by rw [txs_len]; exact small1000 (by omega)) (fun _ y => y = .bl true) (fun H2 r => hB1.same r) (fun i x H2 H3 R hii r1 hy hR => ?_) (fun ys H2 hly hg r1 hDs => ?_)⟩
    · obtain ⟨rfl, e⟩ := hy
      obtain ⟨m, hm, rfl⟩ := txs_get e
      refine ⟨rfl, ?_⟩
      have hnm := hms m (List.mem_of_getElem? hm)
      refine ⟨_, rfl, m, rfl, by have := hnm.2.1; omega, ?_⟩
      rw [decide_eq_true hnm]
      exact hR _ _ (Same.refl _) rfl
    · refine ⟨D, List.replicate ys.length true, rfl, SqL.of (by rw [← all_true hg]; exact hDs), ?_⟩
      rw [rep_all]
      have hB2 : SqB K b H2 p (txs ms) := hB1.same r1
      refine ⟨_, rfl, ?_⟩
      refine ⟨_, rfl, p, ms, rfl, hB2.or, h60, nd, ?_⟩
      refine ⟨_, rfl, p, _, rfl, hB2.or, rfl, ?_⟩
      rw [txs_len, decide_eq_true rfl]
      exact k H2 (s1.trans r1)
abbrev s_istargets : Stmt := top 26
abbrev n_istargets : List Str := ["value", "signs", "marks", "mark"]
theorem sc_istargets : FnScope n_istargets ["value", "signs", "marks"] (fnScope s_istargets) := fnScope_by (by decide +kernel)
def spIsTargets : Sp := fun vs H Q _ => ∃ (p q : Addr) (b c : Bool) (ts ms : List (List Nat)) (sg : List Nat), vs = [.ref p, .str (S sg), .ref q] ∧ H p = some (seqB b (txs ts)) ∧ H q = some (seqB c (txs ms)) ∧ ts.length = sg.length ∧ sg.length ≤ 3 ∧ (∀ t ∈ ts, t ∈ ms) ∧ ∀ H', Same H H' → Q (.bl true) H'
theorem ok_istargets (T : BT mg) (c_isseq : Cal P w K mg base 1 "is_sequence" spIsSeq []) {f : Addr} {fd : FuncData} (F : Def K mg "_is_targets" s_istargets f fd) (b : Binds K fd ["value", "signs", "marks"] []) : Cal P w K mg base 2 "_is_targets" spIsTargets [] := by
  refine cal0 F b .nil sc_istargets (fun vs H Q E h => ?_) (fun cdv A outer s H vs Q E hr h => ?_)
  · obtain ⟨p, q, b, c, ts, ms, sg, rfl, _⟩ := h; rfl
  · obtain ⟨p, q, b, c, ts, ms, sg, rfl, hp, hq, hl, hl3, ht, k⟩ := h
    refine ⟨_, (pss_cons (ps_if (PW.pt (pw_or (pt_not (pt_val (pe_c c_isseq hr (by first | decide | omega) (by rfl) (pa_cons (pv 0) pa_nil)))) (pw_or1 (pt_cmpR op_ne (pe_callB (lenK K) (by rfl) T.m_len PySem.boot_len (pa_cons (pv 0) pa_nil)) (pe_callB call_len_str (by rfl) T.m_len PySem.boot_len (pa_cons (pv 1) pa_nil)) (nomark _))))) 
        (pss_one (ps_ret pe_bl)
        )
       pss_nil)
      (pss_one (ps_ret (pe_callB (cr_all rfl) (by rfl) T.m_all PyProof.Rows.boot_all (pa_cons (pe_lc (own := [("mark", 3)]) rfl sc_istargets.nd (pi_seq (pv 0)) (blkOk_by (N := n_istargets) (sc := fnScope s_istargets) (by decide +kernel)) (fun _ _ _ _ _ => (pg_name (i := 3) sc_istargets.nd rfl (.inl rfl))) (fun _ _ _ _ _ => pts_nil) (fun _ _ _ _ _ => (pe_cmpR (inK K) (pv 3) (pv 2) rfl))) pa_nil)))
      )), ?_⟩
    refine ⟨_, rfl, p, b, txs ts, rfl, hp, fun H1 s1 => ?_⟩
    refine ⟨true, rfl, ?_⟩
    refine iteN rfl ?_
    have hB1 : SqB K b H1 p (txs ts) := all_of hp s1
    have hC1 : SqB K c H1 q (txs ms) := all_of hq s1
    refine ⟨_, rfl, p, _, rfl, hB1.or, _, rfl, _, rfl, by rw [S_len]; exact sz (m := 3) hl3 (by decide), rfl, _, rfl, ?_⟩
    refine iteN (by rw [txs_len, S_len, hl]; simp) ?_
    refine ⟨_, rfl, p, b, txs ts, rfl, hB1, fun D hD => lc_keep keep_same (walk_seq (K := K) (b := b) (a := p) (xs := txs ts)) hD (by rw [txs_len]; exact small1000 (by omega)) (fun _ y => y = .bl true) (fun H2 r => hB1.same r) (fun i x H2 H3 R hii r1 hy hR => ?_) (fun ys H2 hly hg r1 hDs => ?_)⟩
    · obtain ⟨rfl, e⟩ := hy
      obtain ⟨m, hm, rfl⟩ := txs_get e
      refine ⟨rfl, ?_⟩
      refine ⟨_, rfl, _, rfl, q, txs ms, rfl, (hC1.same r1).or, rfl, flat_txs _, ?_⟩
      refine hR _ _ (Same.refl _) ?_
      rw [inV_txs, decide_eq_true (ht m (List.mem_of_getElem? hm))]; rfl
    · refine ⟨D, List.replicate ys.length true, rfl, SqL.of (by rw [← all_true hg]; exact hDs), ?_⟩
      rw [rep_all]
      exact k H2 (s1.trans r1)
abbrev s_issteps : Stmt := top 25
abbrev n_issteps : List Str := ["value", "signs", "marks", "targets"]
theorem sc_issteps : FnScope n_issteps ["value", "signs", "marks"] (fnScope s_issteps) := fnScope_by (by decide +kernel)
def spIsSteps : Sp := fun vs H Q _ => ∃ (p q : Addr) (b b2 c : Bool) (ps : List Addr) (tss : List (List (List Nat))) (ms : List (List Nat)) (sg : List Nat), vs = [.ref p, .str (S sg), .ref q] ∧ H p = some (seqB b (ps.map V.ref)) ∧ H q = some (seqB c (txs ms)) ∧ sg.length ≤ 3 ∧ ms.length < 60 ∧ ps.length = ms.length ∧
  tss.length = ps.length ∧ (∀ (i : Nat) (a : Addr) (ts : List (List Nat)), ps[i]? = some a → tss[i]? = some ts → H a = some (seqB b2 (txs ts)) ∧ ts.length = sg.length ∧ ∀ t ∈ ts, t ∈ ms) ∧ ∀ H', Same H H' → Q (.bl true) H'
theorem ok_issteps (T : BT mg) (c_isseq : Cal P w K mg base 1 "is_sequence" spIsSeq []) (c_istargets : Cal P w K mg base 2 "_is_targets" spIsTargets []) {f : Addr} {fd : FuncData} (F : Def K mg "_is_steps" s_issteps f fd) (b : Binds K fd ["value", "signs", "marks"] []) : Cal P w K mg base 3 "_is_steps" spIsSteps [] := by
  refine cal0 F b .nil sc_issteps (fun vs H Q E h => ?_) (fun cdv A outer s H vs Q E hr h => ?_)
  · obtain ⟨p, q, b, b2, c, ps, tss, ms, sg, rfl, _⟩ := h; rfl
  · obtain ⟨p, q, b, b2, c, ps, tss, ms, sg, rfl, hp, hq, hl3, h60, hl, hlt, hts, k⟩ := h
    refine ⟨_, (pss_cons (ps_if (PW.pt (pw_or (pt_not (pt_val (pe_c c_isseq hr (by first | decide | omega) (by rfl) (pa_cons (pv 0) pa_nil)))) (pw_or1 (pt_cmpR op_ne (pe_callB (lenK K) (by rfl) T.m_len PySem.boot_len (pa_cons (pv 0) pa_nil)) (pe_callB (lenK K) (by rfl) T.m_len PySem.boot_len (pa_cons (pv 2) pa_nil)) (nomark _))))) 
        (pss_one (ps_ret pe_bl)
        )
       pss_nil)
      (pss_one (ps_ret (pe_callB (cr_all rfl) (by rfl) T.m_all PyProof.Rows.boot_all (pa_cons (pe_lc (own := [("targets", 3)]) rfl sc_issteps.nd (pi_seq (pv 0)) (blkOk_by (N := n_issteps) (sc := fnScope s_issteps) (by decide +kernel)) (fun _ _ _ _ _ => (pg_name (i := 3) sc_issteps.nd rfl (.inl rfl))) (fun _ _ _ _ _ => pts_nil) (fun _ _ _ _ _ => (pe_c c_istargets hr (by first | decide | omega) (by rfl) (pa_cons (pv 3) (pa_cons (pv 1) (pa_cons (pv 2) pa_nil)))))) pa_nil)))
      )), ?_⟩
    refine ⟨_, rfl, p, b, _, rfl, hp, fun H1 s1 => ?_⟩
    refine ⟨true, rfl, ?_⟩
    refine iteN rfl ?_
    have hB1 : SqB K b H1 p (ps.map V.ref) := all_of hp s1
    have hC1 : SqB K c H1 q (txs ms) := all_of hq s1
    refine ⟨_, rfl, p, _, rfl, hB1.or, _, rfl, q, _, rfl, hC1.or, rfl, _, rfl, ?_⟩
    refine iteN (by rw [txs_len, List.length_map, hl]; simp) ?_
    refine ⟨_, rfl, p, b, ps.map V.ref, rfl, hB1, fun D hD => lc_keep keep_same (walk_seq (K := K) (b := b) (a := p) (xs := ps.map V.ref)) hD (by rw [List.length_map]; exact small1000 (by omega)) (fun _ y => y = .bl true) (fun H2 r => hB1.same r) (fun i x H2 H3 R hii r1 hy hR => ?_) (fun ys H2 hly hg r1 hDs => ?_)⟩
    · obtain ⟨rfl, e⟩ := hy
      rw [List.getElem?_map] at e
      have hi : i < ps.length := by rw [List.length_map] at hii; exact hii
      have hi2 : i < tss.length := by omega
      rw [List.getElem?_eq_getElem hi] at e
      cases e
      obtain ⟨h1, h2, h3⟩ := hts i _ _ (List.getElem?_eq_getElem hi) (List.getElem?_eq_getElem hi2)
      refine ⟨rfl, ?_⟩
      refine ⟨_, rfl, _, rfl, _, rfl, ps[i], q, b2, c, tss[i], ms, sg, rfl, (s1.trans r1) _ _ h1, (s1.trans r1) _ _ hq, h2, hl3, h3, fun H4 s4 => hR _ _ s4 rfl⟩
    · refine ⟨D, List.replicate ys.length true, rfl, SqL.of (by rw [← all_true hg]; exact hDs), ?_⟩
      rw [rep_all]
      exact k H2 (s1.trans r1)
end
end Toy
set_option maxHeartbeats 4000000
namespace Toy
open PySem L2 C8 SX LX
local macro_rules | `(tactic| walk_at "c") => `(tactic| refine And.intro (by first | (show (0 : Int) < _; omega) | exact Or.inr ⟨by decide, by decide⟩ | exact Or.inl ⟨by decide, by decide⟩ | (exact ⟨by omega, by omega⟩)) ?_)
local macro_rules | `(tactic| walk_at "s1") => `(tactic| first | refine ⟨_, rfl, ?_⟩ | refine ⟨_, _, rfl, rfl, ?_⟩ | refine .inl ⟨_, rfl, ?_⟩ | walk_at "c")
local macro_rules | `(tactic| walk_at "s") => `(tactic| repeat (walk_at "s1"))
section
variable {P : Program} {w : World} {K : PySem.W.Frag} {mg : Str → Option Value} {base : Heap}
structure CR (K : PySem.W.Frag) (C : Addr) : Prop where
  cl : Cls K C
  nS : PySem.W.findIn K (.ref C) "signs" = some none
  nM : PySem.W.findIn K (.ref C) "marks" = some none
  nF : PySem.W.findIn K (.ref C) "first" = some none
  nT : PySem.W.findIn K (.ref C) "steps" = some none
  nN : PySem.W.findIn K (.ref C) "_numbers" = some none
  nL : PySem.W.findIn K (.ref C) "_leads" = some none
  nC : PySem.W.findIn K (.ref C) "_columns" = some none
def rdF (sg : List Nat) (m : Addr) (f : List Nat) (st nu le : Addr) (t : List (Str × V)) : List (Str × V) :=
  ("signs", .str (S sg)) :: ("marks", .ref m) :: ("first", .str (S f)) :: ("steps", .ref st) :: ("_numbers", .ref nu) :: ("_leads", .ref le) :: t
def numK (ms : List (List Nat)) : List (Key × V) := (List.range ms.length).map fun i => (tk (ms.getD i []), .int (i : Nat))
structure RdrAt (C : Addr) (H : Hp) (a : Addr) (sg : List Nat) (ms : List (List Nat)) (f : List Nat) (tg : List Nat → Nat → List Nat) (dx m st nu le : Addr) (sa la : List Nat → Addr) (t : List (Str × V)) : Prop where
  ha : H a = some (.ins C dx (rdF sg m f st nu le t))
  hm : H m = some (.tup (txs ms))
  hst : H st = some (.tup (ms.map fun x => .ref (sa x)))
  hsa : ∀ x ∈ ms, H (sa x) = some (.tup (txs (sg.map (tg x))))
  hnu : H nu = some (.dK (numK ms))
  hle : H le = some (.dK (leK ms la))
  hla : ∀ x ∈ ms, H (la x) = some (.dK (laK sg (tg x)))
def colI (ms : List (List Nat)) (tg : List Nat → Nat → List Nat) (c : Nat) : List V := ms.map fun x => V.int (ms.idxOf (tg x c) : Nat)
def coK (sg : List Nat) (ca : Nat → Addr) : List (Key × V) := sg.map fun c => (tk [c], .ref (ca c))
structure ColAt (H : Hp) (co : Addr) (sg : List Nat) (ms : List (List Nat)) (tg : List Nat → Nat → List Nat) (ca : Nat → Addr) : Prop where
  hco : H co = some (.dK (coK sg ca))
  hca : ∀ c ∈ sg, H (ca c) = some (.tup (colI ms tg c))
def TailOk (t : List (Str × V)) : Prop := t = [] ∨ ∃ co : Addr, t = ([("_columns", .ref co)] : List (Str × V))
def Rdr0 (C : Addr) (H : Hp) (a : Addr) (sg : List Nat) (ms : List (List Nat)) (f : List Nat) (tg : List Nat → Nat → List Nat) : Prop := ∃ dx m st nu le sa la t, TailOk t ∧ RdrAt C H a sg ms f tg dx m st nu le sa la t
def Rdr (C : Addr) (H : Hp) (a : Addr) (sg : List Nat) (ms : List (List Nat)) (f : List Nat) (tg : List Nat → Nat → List Nat) : Prop := ∃ dx m st nu le sa la co ca, RdrAt C H a sg ms f tg dx m st nu le sa la [("_columns", .ref co)] ∧ ColAt H co sg ms tg ca
theorem Rdr.to0 {C : Addr} {H : Hp} {a : Addr} {sg : List Nat} {ms : List (List Nat)} {f : List Nat} {tg : List Nat → Nat → List Nat} (r : Rdr C H a sg ms f tg) : Rdr0 C H a sg ms f tg :=
  let ⟨dx, m, st, nu, le, sa, la, co, ca, h, _⟩ := r; ⟨dx, m, st, nu, le, sa, la, _, .inr ⟨co, rfl⟩, h⟩
theorem putF_new {f : Str} {v : V} : ∀ {fs : List (Str × V)}, (∀ p ∈ fs, ¬ p.1 = f) → putF f v fs = fs ++ [(f, v)]
  | [], _ => rfl
  | (g, u) :: fs, h => by
    show (if g = f then _ else (g, u) :: putF f v fs) = _
    rw [if_neg (h (g, u) List.mem_cons_self), putF_new fun p hp => h p (List.mem_cons_of_mem _ hp)]; rfl
theorem nm6 : ([("signs" : Str), "marks", "first", "steps", "_numbers", "_leads"] : List Str).Nodup := by decide +kernel
theorem pf1 (v0 : V) : putF ("signs" : Str) v0 ([] : List (Str × V)) = ([("signs", v0)] : List (Str × V)) := rfl
theorem pf2 (v0 v1 : V) : putF ("marks" : Str) v1 ([("signs", v0)] : List (Str × V)) = ([("signs", v0), ("marks", v1)] : List (Str × V)) := putF_new fun p hp => by
  simp at hp; rcases hp with rfl; dsimp only; decide +kernel
theorem pf3 (v0 v1 v2 : V) : putF ("first" : Str) v2 ([("signs", v0), ("marks", v1)] : List (Str × V)) = ([("signs", v0), ("marks", v1), ("first", v2)] : List (Str × V)) := putF_new fun p hp => by
  simp at hp; rcases hp with rfl | rfl <;> (dsimp only; decide +kernel)
theorem pf4 (v0 v1 v2 v3 : V) : putF ("steps" : Str) v3 ([("signs", v0), ("marks", v1), ("first", v2)] : List (Str × V)) = ([("signs", v0), ("marks", v1), ("first", v2), ("steps", v3)] : List (Str × V)) := putF_new fun p hp => by
  simp at hp; rcases hp with rfl | rfl | rfl <;> (dsimp only; decide +kernel)
theorem pf5 (v0 v1 v2 v3 v4 : V) : putF ("_numbers" : Str) v4 ([("signs", v0), ("marks", v1), ("first", v2), ("steps", v3)] : List (Str × V)) = ([("signs", v0), ("marks", v1), ("first", v2), ("steps", v3), ("_numbers", v4)] : List (Str × V)) := putF_new fun p hp => by
  simp at hp; rcases hp with rfl | rfl | rfl | rfl <;> (dsimp only; decide +kernel)
theorem pf6 (v0 v1 v2 v3 v4 v5 : V) : putF ("_leads" : Str) v5 ([("signs", v0), ("marks", v1), ("first", v2), ("steps", v3), ("_numbers", v4)] : List (Str × V)) = ([("signs", v0), ("marks", v1), ("first", v2), ("steps", v3), ("_numbers", v4), ("_leads", v5)] : List (Str × V)) := putF_new fun p hp => by
  simp at hp; rcases hp with rfl | rfl | rfl | rfl | rfl <;> (dsimp only; decide +kernel)
theorem pf7 (v0 v1 v2 v3 v4 v5 v6 : V) : putF ("_columns" : Str) v6 ([("signs", v0), ("marks", v1), ("first", v2), ("steps", v3), ("_numbers", v4), ("_leads", v5)] : List (Str × V)) = ([("signs", v0), ("marks", v1), ("first", v2), ("steps", v3), ("_numbers", v4), ("_leads", v5), ("_columns", v6)] : List (Str × V)) := putF_new fun p hp => by
  simp at hp; rcases hp with rfl | rfl | rfl | rfl | rfl | rfl <;> (dsimp only; decide +kernel)
theorem RdrAt.same {C : Addr} {H H' : Hp} {a : Addr} {sg : List Nat} {ms : List (List Nat)} {f : List Nat} {tg : List Nat → Nat → List Nat} {dx m st nu le : Addr} {sa la : List Nat → Addr} {t : List (Str × V)} (h : RdrAt C H a sg ms f tg dx m st nu le sa la t) (s : Same H H') : RdrAt C H' a sg ms f tg dx m st nu le sa la t :=
  ⟨s _ _ h.ha, s _ _ h.hm, s _ _ h.hst, fun x hx => s _ _ (h.hsa x hx), s _ _ h.hnu, s _ _ h.hle, fun x hx => s _ _ (h.hla x hx)⟩
theorem ColAt.same {H H' : Hp} {co : Addr} {sg : List Nat} {ms : List (List Nat)} {tg : List Nat → Nat → List Nat} {ca : Nat → Addr} (h : ColAt H co sg ms tg ca) (s : Same H H') : ColAt H' co sg ms tg ca := ⟨s _ _ h.hco, fun c hc => s _ _ (h.hca c hc)⟩
theorem Rdr.same {C : Addr} {H H' : Hp} {a : Addr} {sg : List Nat} {ms : List (List Nat)} {f : List Nat} {tg : List Nat → Nat → List Nat} (r : Rdr C H a sg ms f tg) (s : Same H H') : Rdr C H' a sg ms f tg :=
  let ⟨dx, m, st, nu, le, sa, la, co, ca, h, hc⟩ := r; ⟨dx, m, st, nu, le, sa, la, co, ca, h.same s, hc.same s⟩
theorem Rdr0.same {C : Addr} {H H' : Hp} {a : Addr} {sg : List Nat} {ms : List (List Nat)} {f : List Nat} {tg : List Nat → Nat → List Nat} (r : Rdr0 C H a sg ms f tg) (s : Same H H') : Rdr0 C H' a sg ms f tg :=
  let ⟨dx, m, st, nu, le, sa, la, t, ht, h⟩ := r; ⟨dx, m, st, nu, le, sa, la, t, ht, h.same s⟩
structure Good (sg : List Nat) (ms : List (List Nat)) (f : List Nat) (tg : List Nat → Nat → List Nat) : Prop where
  hsg : Sg sg
  hnd : ms.Nodup
  h1 : 1 ≤ ms.length
  h8 : ms.length ≤ 8
  hnm : ∀ m ∈ ms, Name m
  hf : f ∈ ms
  htg : ∀ m ∈ ms, ∀ c ∈ sg, tg m c ∈ ms
theorem zip_self_map {α β γ : Type} (g : α → β) (f : α → γ) : ∀ l : List α, ((l.zip (l.map f)).map fun p => (g p.1, p.2)) = l.map fun a => (g a, f a)
  | [] => rfl
  | a :: l => by
    have := zip_self_map g f l
    simp only [List.map_cons, List.zip_cons_cons] at this ⊢
    rw [this]
theorem la_dict {sg : List Nat} (hn : sg.Nodup) (t : Nat → List Nat) : mergeK [] ((sg.zip (txs (sg.map t))).map fun p => (tk [p.1], p.2)) = laK sg t := by
  have e : txs (sg.map t) = sg.map fun c => V.str (S (t c)) := by unfold txs; rw [List.map_map]; rfl
  rw [e, zip_self_map (fun c => tk [c]), merge_nil (nodup_keys (key := fun c => tk [c]) (fun a b h => (List.cons.inj (tk_inj h)).1) hn)]
  rfl
theorem getD_of {ms : List (List Nat)} {i : Nat} {m : List Nat} (h : ms[i]? = some m) : ms.getD i [] = m := by rw [List.getD_eq_getElem?_getD, h]; rfl
theorem key_inj {ms : List (List Nat)} (nd : ms.Nodup) : ∀ i j, i < ms.length → j < i → tk (ms.getD j []) ≠ tk (ms.getD i []) := fun i j hi hj h => by
  have e := tk_inj h
  have hj2 : j < ms.length := by omega
  rw [List.getD_eq_getElem?_getD, List.getD_eq_getElem?_getD, List.getElem?_eq_getElem hi, List.getElem?_eq_getElem hj2] at e
  have e1 := nd.idxOf_getElem i hi
  have e2 := nd.idxOf_getElem j hj2
  rw [show ms[j] = ms[i] from e, e1] at e2
  omega
end
section
variable {C : Addr} {H : Hp} {a : Addr} {sg : List Nat} {ms : List (List Nat)} {f : List Nat} {tg : List Nat → Nat → List Nat} {dx m st nu le : Addr} {sa la : List Nat → Addr} {t : List (Str × V)}
theorem rl_signs : (rdF sg m f st nu le t).lookup ("signs" : Str) = some (.str (S sg)) := by rfl
theorem rl_marks : (rdF sg m f st nu le t).lookup ("marks" : Str) = some (.ref m) := by rfl
theorem rl_first : (rdF sg m f st nu le t).lookup ("first" : Str) = some (.str (S f)) := by rfl
theorem rl_steps : (rdF sg m f st nu le t).lookup ("steps" : Str) = some (.ref st) := by rfl
theorem rl_numbers : (rdF sg m f st nu le t).lookup ("_numbers" : Str) = some (.ref nu) := by rfl
theorem rl_leads : (rdF sg m f st nu le t).lookup ("_leads" : Str) = some (.ref le) := by rfl
theorem RdrAt.mark (r : RdrAt C H a sg ms f tg dx m st nu le sa la t) {x : List Nat} (h : x ∈ ms) : DGet H le (.str (S x)) (some (.ref (la x))) := .inl ⟨_, tk x, .inl r.hle, rfl, (valV_map' (key := tk) (f := fun m => V.ref (la m)) (fun _ _ => tk_inj) h).symm⟩
theorem RdrAt.at_ (r : RdrAt C H a sg ms f tg dx m st nu le sa la t) {x : List Nat} (h : x ∈ ms) {c : Nat} (hc : c ∈ sg) : DGet H (la x) (.str (S [c])) (some (.str (S (tg x c)))) :=
  .inl ⟨_, tk [c], .inl (r.hla x h), rfl, (valV_map' (key := fun c => tk [c]) (f := fun c => V.str (S (tg x c))) (fun _ _ e => (List.cons.inj (tk_inj e)).1) hc).symm⟩
theorem numK_eq (ms : List (List Nat)) (nd : ms.Nodup) : numK ms = ms.map fun x => (tk x, V.int (ms.idxOf x : Nat)) := by
  unfold numK
  symm
  refine list_of (f := fun i => (tk (ms.getD i []), V.int (i : Nat))) (by rw [List.length_map]) fun j y hy => ?_
  rw [List.getElem?_map] at hy
  cases q : ms[j]? with
  | none => rw [q] at hy; cases hy
  | some x =>
    rw [q] at hy; cases hy
    obtain ⟨h1, h2⟩ := List.getElem?_eq_some_iff.mp q
    have : ms.idxOf x = j := by rw [← h2]; exact nd.idxOf_getElem j h1
    rw [getD_of q]
    show (tk x, V.int (ms.idxOf x : Nat)) = _
    rw [this]
theorem RdrAt.num (r : RdrAt C H a sg ms f tg dx m st nu le sa la t) (nd : ms.Nodup) {x : List Nat} (h : x ∈ ms) : DGet H nu (.str (S x)) (some (.int (ms.idxOf x : Nat))) := .inl ⟨_, tk x, .inl r.hnu, rfl, by
  rw [numK_eq ms nd]; exact (valV_map' (key := tk) (f := fun x => V.int (ms.idxOf x : Nat)) (fun _ _ => tk_inj) h).symm⟩
end
theorem rdr_no {sg : List Nat} {m : Addr} {f : List Nat} {st nu le : Addr} {t : List (Str × V)} {n : Str} (ht : TailOk t) (h : (n == ("signs" : Str)) = false ∧ (n == ("marks" : Str)) = false ∧ (n == ("first" : Str)) = false ∧ (n == ("steps" : Str)) = false ∧ (n == ("_numbers" : Str)) = false ∧ (n == ("_leads" : Str)) = false ∧ (n == ("_columns" : Str)) = false) : (rdF sg m f st nu le t).lookup n = none := by
  unfold rdF
  rw [List.lookup_cons, h.1, List.lookup_cons, h.2.1, List.lookup_cons, h.2.2.1, List.lookup_cons, h.2.2.2.1, List.lookup_cons, h.2.2.2.2.1, List.lookup_cons, h.2.2.2.2.2.1]
  rcases ht with rfl | ⟨co, rfl⟩
  · rfl
  · rw [List.lookup_cons, h.2.2.2.2.2.2]; rfl
section
variable {P : Program} {w : World} {K : PySem.W.Frag} {mg : Str → Option Value} {base : Heap}
abbrev s_m_num : Stmt := inClass (top 19) 4
abbrev n_m_num : List Str := ["self", "mark"]
theorem sc_m_num : FnScope n_m_num ["self", "mark"] (fnScope s_m_num) := fnScope_by (by decide +kernel)
def spMNum (C : Addr) : Sp := fun vs H Q _ => ∃ (a : Addr) (sg : List Nat) (ms : List (List Nat)) (f : List Nat) (tg : List Nat → Nat → List Nat) (x : List Nat), vs = [.ref a, .str (S x)] ∧ Rdr0 C H a sg ms f tg ∧ ms.Nodup ∧ x ∈ ms ∧ Q (.int (ms.idxOf x : Nat)) H
theorem ok_mnum {C : Addr} (T : BT mg) (CH : CR K C) {f : Addr} {fd : FuncData} (me : Meth K C "number_of" f) (F : C8.Fun K "number_of" "Reader.number_of" s_m_num f fd) (b : Binds K fd ["self", "mark"] []) : Met P w K mg base 1 C "number_of" (spMNum C) [] := by
  refine met0 CH.cl me F b sc_m_num (fun vs H Q E h => ?_) (fun cdv A outer s H vs Q E hr h => ?_)
  · obtain ⟨a, sg, ms, f, tg, x, rfl, _⟩ := h; rfl
  · obtain ⟨a, sg, ms, f, tg, x, rfl, ⟨dx, m, st, nu, le, sa, la, t, ht, r⟩, hnd, hx, k⟩ := h
    refine ⟨_, (pss_one (ps_ret (pe_dget (hu_of hr) (fldK K (pv 0) rfl) (pv 1) (fun _ _ => rfl)))
      ), ?_⟩
    refine ⟨_, rfl, a, C, dx, _, _, rfl, r.ha, CH.cl, CH.nN, rl_numbers, ?_⟩
    exact ⟨_, rfl, _, _, rfl, r.num hnd hx, k⟩
abbrev s_table : Stmt := top 22
abbrev n_table : List Str := ["reader", "targets", "mark"]
theorem sc_table : FnScope n_table ["reader"] (fnScope s_table) := fnScope_by (by decide +kernel)
abbrev ncs_table : Scope := relS (outS (ofRet ((fnBody s_table).getD 0 (.Pass ⟨0, 0, 0, 0⟩)))) (fnScope s_table)
def tabI (sg : List Nat) (ms : List (List Nat)) (tg : List Nat → Nat → List Nat) (x : List Nat) : List V := sg.map fun c => V.int (ms.idxOf (tg x c) : Nat)
def spTable (C : Addr) : Sp := fun vs H Q _ => ∃ (a : Addr) (sg : List Nat) (ms : List (List Nat)) (f : List Nat) (tg : List Nat → Nat → List Nat), vs = [.ref a] ∧ Rdr0 C H a sg ms f tg ∧ Good sg ms f tg ∧
  ∀ (p : Addr) (ra : List Nat → Addr) (H' : Hp), Same H H' → H p = none → H' p = some (.lst (ms.map fun x => .ref (ra x))) → (∀ x ∈ ms, H' (ra x) = some (.lst (tabI sg ms tg x))) → Q (.ref p) H'
theorem ok_table {C : Addr} (T : BT mg) (CH : CR K C) (c_m_num : Met P w K mg base 1 C "number_of" (spMNum C) []) {f : Addr} {fd : FuncData} (F : Def K mg "table_of" s_table f fd) (b : Binds K fd ["reader"] []) : Cal P w K mg base 2 "table_of" (spTable C) [] := by
  refine cal0 F b .nil sc_table (fun vs H Q E h => ?_) (fun cdv A outer s H vs Q E hr h => ?_)
  · obtain ⟨a, sg, ms, f, tg, rfl, _⟩ := h; rfl
  · obtain ⟨a, sg, ms, f, tg, rfl, hrd, hgd, k⟩ := h
    obtain ⟨dx, m, st, nu, le, sa, la, t, ht, r⟩ := id hrd
    have h8 := hgd.h8
    refine ⟨_, (pss_one (ps_ret (pe_lc (own := [("targets", 1)]) rfl sc_table.nd (pi_tup (fldK K (pv 0) rfl)) (blkOk_by (N := n_table) (sc := fnScope s_table) (by decide +kernel)) (fun _ _ _ _ _ => (pg_name (i := 1) sc_table.nd rfl (.inl rfl))) (fun _ _ _ _ _ => pts_nil) (fun _ _ _ _ _ => (pe_lc (own := [("mark", 2)]) rfl sc_table.nd (pi_tupK K (pv 1)) (blkOk_by (N := n_table) (sc := ncs_table) (by decide +kernel)) (fun _ _ _ _ _ => (pg_name (i := 2) sc_table.nd rfl (.inl rfl))) (fun _ _ _ _ _ => pts_nil) (fun _ _ _ _ _ => (pe_mt c_m_num hr (by decide) (pv 0) (pa_cons (pv 2) pa_nil)))))))
      ), ?_⟩
    refine ⟨_, rfl, a, C, dx, _, _, rfl, r.ha, CH.cl, CH.nT, rl_steps, ?_⟩
    refine ⟨st, rfl, ⟨_, SqT.of r.hst⟩, fun D hD => ?_⟩
    refine lc_keepH keep_same (walk_tup (K := K) (a := st) (xs := ms.map fun x => V.ref (sa x))) hD (by rw [List.length_map]; exact small1000 (by omega)) (fun j y H => ∃ t, y = .ref t ∧ t ≠ D ∧ ∀ mm, ms[j]? = some mm → H t = some (.lst (tabI sg ms tg mm))) (fun H r1 => SqT.of (r1 _ _ r.hst))
      (fun _ _ _ _ _ r1 ⟨t, e, n, h⟩ => ⟨t, e, n, fun mm hm => r1 _ _ (h mm hm)⟩) (fun _ _ _ _ _ _ _ ⟨t, e, n, h⟩ => ⟨t, e, n, fun mm hm => by rw [upd_ne n]; exact h mm hm⟩) (fun i x H2 H2' acc R hi r2 hDa hy hR => ?_) (fun ys H2 hly hg r2 hDs => ?_)
    · obtain ⟨rfl, e⟩ := hy
      rw [List.getElem?_map] at e
      cases em : ms[i]? with
      | none => rw [em] at e; cases e
      | some mm =>
        rw [em] at e; cases e
        have hmem := List.mem_of_getElem? em
        have hsm := r2 _ _ (r.hsa mm hmem)
        refine ⟨rfl, ?_⟩
        refine ⟨_, rfl, sa mm, rfl, ⟨_, SqT.of hsm⟩, fun D2 hD2 => lc_keep keep_same (walk_tup (K := K) (a := sa mm) (xs := txs (sg.map (tg mm)))) hD2 (by rw [txs_len, List.length_map]; exact small1000 (by have := hgd.hsg.2.2.1; omega)) (fun j y => ∀ c, sg[j]? = some c → y = .int (ms.idxOf (tg mm c) : Nat)) (fun H3 r3 => SqT.of (r3 _ _ hsm)) (fun j z H3 H4 R2 hj r3 hy hR2 => ?_) (fun zs H3 hlz hgz r3 hDz => ?_)⟩
        · obtain ⟨rfl, e⟩ := hy
          obtain ⟨l, hl, rfl⟩ := txs_get e
          rw [List.getElem?_map] at hl
          cases ec : sg[j]? with
          | none => rw [ec] at hl; cases hl
          | some c =>
            rw [ec] at hl
            obtain rfl : tg mm c = l := Option.some.inj hl
            refine ⟨rfl, ?_⟩
            refine ⟨_, rfl, a, dx, _, rfl, (r2.trans r3) _ _ r.ha, rdr_no ht (by decide +kernel), _, rfl, ?_⟩
            exact ⟨a, sg, ms, f, tg, tg mm c, rfl, hrd.same (r2.trans r3), hgd.hnd, hgd.htg mm hmem c (List.mem_of_getElem? ec), hR2 _ _ (Same.refl _) fun c' h => by rw [Option.some.inj (ec.symm.trans h)]⟩
        · have ez : zs = tabI sg ms tg mm := by
            refine list_map (hlz.trans (by rw [txs_len, List.length_map])) fun j y c e1 e2 => hgz j y e1 c e2
          subst ez
          have nD : D2 ≠ D := fun e => by rw [e, hDa] at hD2; cases hD2
          exact hR _ _ r3 ⟨D2, rfl, nD, fun m2 h2 => by rw [em] at h2; cases h2; exact hDz⟩
    rw [List.length_map] at hly
    obtain ⟨ra, hra⟩ := fun_of (γ := Addr) hgd.hnd (P := fun j mm t => ys[j]? = some (V.ref t) ∧ H2 t = some (.lst (tabI sg ms tg mm))) fun j mm hj => by
      have hjl : j < ys.length := by rw [hly]; exact (List.getElem?_eq_some_iff.mp hj).1
      obtain ⟨t, e, _, h⟩ := hg j _ (List.getElem?_eq_getElem hjl)
      exact ⟨t, by rw [List.getElem?_eq_getElem hjl, e], h mm hj⟩
    have eys : ys = ms.map fun x => V.ref (ra x) := list_map hly fun j y x e1 e2 => by have := (hra j x e2).1; rw [e1] at this; exact Option.some.inj this
    subst eys
    exact k D ra H2 r2 hD hDs fun x hx => by obtain ⟨j, hj⟩ := List.getElem?_of_mem hx; exact (hra j x hj).2
abbrev s_cols : Stmt := top 23
abbrev n_cols : List Str := ["signs", "table", "at", "sign", "things"]
theorem sc_cols : FnScope n_cols ["signs", "table"] (fnScope s_cols) := fnScope_by (by decide +kernel)
abbrev ncs_cols : Scope := relS (outD (ofRet ((fnBody s_cols).getD 0 (.Pass ⟨0, 0, 0, 0⟩)))) (fnScope s_cols)
def spCols : Sp := fun vs H Q _ => ∃ (p : Addr) (sg : List Nat) (ms : List (List Nat)) (tg : List Nat → Nat → List Nat) (ra : List Nat → Addr), vs = [.str (S sg), .ref p] ∧ H p = some (.lst (ms.map fun x => .ref (ra x))) ∧ (∀ x ∈ ms, H (ra x) = some (.lst (tabI sg ms tg x))) ∧ ms.length ≤ 60 ∧ sg.length ≤ 3 ∧ sg.Nodup ∧
  ∀ (d : Addr) (ca : Nat → Addr) (H' : Hp), Same H H' → H d = none → ColAt H' d sg ms tg ca → Q (.ref d) H'
theorem ok_cols (T : BT mg) {f : Addr} {fd : FuncData} (F : Def K mg "columns_of" s_cols f fd) (b : Binds K fd ["signs", "table"] []) : Cal P w K mg base 1 "columns_of" spCols [] := by
  refine cal0 F b .nil sc_cols (fun vs H Q E h => ?_) (fun cdv A outer s H vs Q E hr h => ?_)
  · obtain ⟨p, sg, ms, tg, ra, rfl, _⟩ := h; rfl
  · obtain ⟨p, sg, ms, tg, ra, rfl, hp, hra, hm, hs3, hnd, k⟩ := h
    refine ⟨_, (pss_one (ps_ret (pe_dc (own := [("at", 2), ("sign", 3)]) rfl sc_cols.nd (pi_enumX (by rfl) T.m_enumerate (pa_cons (pv 0) pa_nil)) (blkOk_by (N := n_cols) (sc := fnScope s_cols) (by decide +kernel)) (fun _ _ _ _ _ => (tupK K 2 (pgs_cons (pg_name (i := 2) sc_cols.nd rfl (.inr rfl)) (pgs_cons (pg_name (i := 3) sc_cols.nd rfl (.inl rfl)) pgs_nil)))) (fun _ _ _ _ _ => pts_nil) (fun _ _ _ _ _ => (pv 3)) (fun _ _ _ _ _ => (pe_callTy (tupleK K) (by rfl) T.m_tuple PyProof.Rows.boot_tuple (pa_cons (pe_lc (own := [("things", 4)]) rfl sc_cols.nd (pi_listK K (pv 1)) (blkOk_by (N := n_cols) (sc := ncs_cols) (by decide +kernel)) (fun _ _ _ _ _ => (pg_name (i := 4) sc_cols.nd rfl (.inl rfl))) (fun _ _ _ _ _ => pts_nil) (fun _ _ _ _ _ => (pe_ix (ixl K) (pv 4) (pv 2) (fun _ _ => rfl)))) pa_nil)))))
      ), ?_⟩
    have hinj : ∀ i j, i < sg.length → j < i → tk [sg.getD j 0] ≠ tk [sg.getD i 0] := fun i j hi hj h => by
      have e := (List.cons.inj (tk_inj h)).1
      have hj2 : j < sg.length := by omega
      rw [List.getD_eq_getElem?_getD, List.getD_eq_getElem?_getD, List.getElem?_eq_getElem hi, List.getElem?_eq_getElem hj2] at e
      have e1 := hnd.idxOf_getElem i hi
      have e2 := hnd.idxOf_getElem j hj2
      rw [show sg[j] = sg[i] from e, e1] at e2
      omega
    have hget : ∀ {i c : Nat}, sg[i]? = some c → sg.getD i 0 = c := fun h => by rw [List.getD_eq_getElem?_getD, h]; rfl
    refine ⟨_, rfl, V.str (S sg), .txt (S sg), rfl, rfl, trivial, fun D hD => ?_⟩
    refine dc_keep keep_same (walk_enumX (K := K) (S := .txt (S sg)) (xs := sg.map fun c => V.str (S [c]))) hD (by rw [List.length_map]; exact small1000 (by omega)) (fun i => tk [sg.getD i 0]) (fun j y H => ∃ t, y = .ref t ∧ ∀ c, sg[j]? = some c → H t = some (.tup (colI ms tg c))) (fun H r => rfl) (fun i j hi hj => hinj i j (by rw [List.length_map] at hi; exact hi) hj)
      (fun _ _ _ _ _ r ⟨t, e, h⟩ => ⟨t, e, fun c hc => r _ _ (h c hc)⟩) (fun _ _ _ _ _ _ hDa ⟨t, e, h⟩ => ⟨t, e, fun c hc => by rw [upd_ne (ne_of (h c hc) hDa (by intro h; cases h))]; exact h c hc⟩) (fun i x H2 H3 acc R hi r hDa hy hR => ?_) (fun ys H2 hly hg r2 hDs => ?_)
    · obtain ⟨t, x1, x2, rfl, ht, rfl, e1, e2⟩ := hy
      obtain rfl : V.int (i : Nat) = x1 := Option.some.inj e1
      have e2 : (sg.map fun c => V.str (S [c]))[i]? = some x2 := e2
      rw [List.getElem?_map] at e2
      cases ec : sg[i]? with
      | none => rw [ec] at e2; cases e2
      | some c =>
        rw [ec] at e2
        obtain rfl : V.str (S [c]) = x2 := Option.some.inj e2
        have s3 : Same H2 (upd H2 t (.tup [.int (i : Nat), .str (S [c])])) := sm_new ht
        have ht3 : (upd H2 t (.tup [.int (i : Nat), .str (S [c])])) t = some (.tup [.int (i : Nat), .str (S [c])]) := upd_same
        generalize upd H2 t (.tup [.int (i : Nat), .str (S [c])]) = H3 at s3 ht3 ⊢
        refine ⟨t, _, rfl, .inl (.inl ht3), rfl, _, _, rfl, _, _, rfl, rfl, rfl, ?_⟩
        refine ⟨_, rfl, ?_⟩
        have hp3 := (r.trans s3) _ _ hp
        have hic : i < sg.length := (List.getElem?_eq_some_iff.mp ec).1
        refine ⟨_, rfl, p, rfl, ⟨_, SqL.of hp3⟩, fun D2 hD2 => lc_keep keep_same (walk_list (K := K) (a := p) (xs := ms.map fun x => V.ref (ra x))) hD2 (by rw [List.length_map]; exact small1000 (by omega)) (fun j y => ∀ mm, ms[j]? = some mm → y = .int (ms.idxOf (tg mm c) : Nat)) (fun H4 r4 => SqL.of (r4 _ _ hp3)) (fun j z H4 H5 R2 hj r4 hy hR2 => ?_) (fun zs H4 hlz hgz r4 hDz => ?_)⟩
        · obtain ⟨rfl, e⟩ := hy
          rw [List.getElem?_map] at e
          cases em : ms[j]? with
          | none => rw [em] at e; cases e
          | some mm =>
            rw [em] at e; cases e
            have hrow := ((r.trans s3).trans r4) _ _ (hra mm (List.mem_of_getElem? em))
            refine ⟨rfl, ?_⟩
            refine ⟨_, rfl, _, rfl, ra mm, tabI sg ms tg mm, (i : Nat), .int (ms.idxOf (tg mm c) : Nat), rfl, rfl, SqL.of hrow, at_of rfl (by unfold tabI; rw [List.getElem?_map, ec]; rfl), ?_⟩
            exact hR2 _ _ (Same.refl _) fun m2 h2 => by rw [Option.some.inj (em.symm.trans h2)]
        · have ez : zs = colI ms tg c := by
            unfold colI
            exact list_map (hlz.trans (by rw [List.length_map])) fun j y mm e1 e2 => hgz j y e1 mm e2
          subst ez
          refine nil1 ⟨D2, _, rfl, .inl ⟨SqL.of hDz, fun st hst => ?_⟩⟩
          rw [hget ec] at hR
          exact hR _ _ ((s3.trans r4).trans (sm_new hst)) ⟨st, rfl, fun c' hc' => by rw [Option.some.inj (hc'.symm.trans ec)]; exact upd_same⟩
    · rw [List.length_map] at hly hDs
      obtain ⟨ca, hca⟩ := fun_of (γ := Addr) hnd (P := fun j c t => ys[j]? = some (V.ref t) ∧ H2 t = some (.tup (colI ms tg c))) fun j c hj => by
        have hjl : j < ys.length := by rw [hly]; exact (List.getElem?_eq_some_iff.mp hj).1
        obtain ⟨t, e, h⟩ := hg j _ (List.getElem?_eq_getElem hjl)
        exact ⟨t, by rw [List.getElem?_eq_getElem hjl, e], h c hj⟩
      have eys : ys = sg.map fun c => V.ref (ca c) := list_map hly fun j y c e1 e2 => by have := (hca j c e2).1; rw [e1] at this; exact Option.some.inj this
      subst eys
      refine k D ca H2 r2 hD ⟨?_, fun c hc => by obtain ⟨j, hj⟩ := List.getElem?_of_mem hc; exact (hca j c hj).2⟩
      rw [hDs]
      have e : (sg.map fun c => V.ref (ca c)) = (List.range sg.length).map fun i => V.ref (ca (sg.getD i 0)) := by
        refine (list_of (by rw [List.length_map]) fun j y hy => ?_)
        rw [List.getElem?_map] at hy
        cases q : sg[j]? with
        | none => rw [q] at hy; cases hy
        | some x => rw [q] at hy; cases hy; rw [hget q]
      rw [e, zip_self_map (fun i => tk [sg.getD i 0])]
      congr 2
      symm
      unfold coK
      refine list_of (f := fun i => (tk [sg.getD i 0], V.ref (ca (sg.getD i 0)))) (by rw [List.length_map]) fun j y hy => ?_
      rw [List.getElem?_map] at hy
      cases q : sg[j]? with
      | none => rw [q] at hy; cases hy
      | some x => rw [q] at hy; cases hy; rw [hget q]
end
end Toy
set_option maxHeartbeats 4000000
namespace Toy
open PySem L2 C8 SX LX
local macro_rules | `(tactic| walk_at "c") => `(tactic| refine And.intro (by first | (show (0 : Int) < _; omega) | exact Or.inr ⟨by decide, by decide⟩ | exact Or.inl ⟨by decide, by decide⟩ | (exact ⟨by omega, by omega⟩)) ?_)
local macro_rules | `(tactic| walk_at "s1") => `(tactic| first | refine ⟨_, rfl, ?_⟩ | refine ⟨_, _, rfl, rfl, ?_⟩ | refine .inl ⟨_, rfl, ?_⟩ | walk_at "c")
local macro_rules | `(tactic| walk_at "s") => `(tactic| repeat (walk_at "s1"))
section
variable {P : Program} {w : World} {K : PySem.W.Frag} {mg : Str → Option Value} {base : Heap}
abbrev s_init : Stmt := inClass (top 19) 0
abbrev n_init : List Str := ["self", "signs", "marks", "first", "steps", "at", "mark", "targets"]
theorem sc_init : FnScope n_init ["self", "signs", "marks", "first", "steps"] (fnScope s_init) := fnScope_by (by decide +kernel)
def spInit (C : Addr) : Sp := fun vs H Q _ => ∃ (a dx q p : Addr) (b c d : Bool) (sg : List Nat) (ms : List (List Nat)) (f : List Nat) (tg : List Nat → Nat → List Nat) (pa : List Nat → Addr), vs = [.ref a, .str (S sg), .ref q, .str (S f), .ref p] ∧ H a = some (.ins C dx []) ∧
  H q = some (seqB b (txs ms)) ∧ H p = some (seqB c (ms.map fun x => .ref (pa x))) ∧ (∀ x ∈ ms, H (pa x) = some (seqB d (txs (sg.map (tg x))))) ∧ Good sg ms f tg ∧
  ∀ H', (∀ b o, b ≠ a → H b = some o → H' b = some o) → Rdr C H' a sg ms f tg → Q .non H'
theorem ok_init {C : Addr} (T : BT mg) (CH : CR K C) (c_issigns : Cal P w K mg base 3 "is_signs" spIsSigns []) (c_ismarks : Cal P w K mg base 4 "_is_marks" spIsMarks []) (c_issteps : Cal P w K mg base 3 "_is_steps" spIsSteps []) (c_table : Cal P w K mg base 2 "table_of" (spTable C) []) (c_cols : Cal P w K mg base 1 "columns_of" spCols []) (M : Mk K C f) (hm : mg "Reader" = some (.ref C)) {fd : FuncData} (F : C8.Fun K "__init__" "Reader.__init__" s_init f fd) (b : Binds K fd ["self", "signs", "marks", "first", "steps"] []) : Mak P w K mg base 5 "Reader" C (spInit C) [] := by
  refine mak0 M hm F b .nil sc_init (fun vs H Q E h => ?_) (fun cdv A outer s H vs Q E hr h => ?_)
  · obtain ⟨a, dx, q, p, b, c, d, sg, ms, f, tg, pa, rfl, _⟩ := h; rfl
  · obtain ⟨a, dx, q, p, b, c, d, sg, ms, f, tg, pa, rfl, ha, hq, hp, hpa, hgd, k⟩ := h
    refine ⟨_, (pss_cons (ps_if (pt_not (pt_val (pe_c c_issigns hr (by first | decide | omega) (by rfl) (pa_cons (pv 1) pa_nil)))) 
        (pss_one ps_never
        )
       pss_nil)
      (pss_cons (ps_if (pt_not (pt_val (pe_c c_ismarks hr (by first | decide | omega) (by rfl) (pa_cons (pv 2) pa_nil)))) 
        (pss_one ps_never
        )
       pss_nil)
      (pss_cons (ps_if (pt_cmpR (notInK K) (pv 3) (pv 2) rfl) 
        (pss_one ps_never
        )
       pss_nil)
      (pss_cons (ps_if (pt_not (pt_val (pe_c c_issteps hr (by first | decide | omega) (by rfl) (pa_cons (pv 4) (pa_cons (pv 1) (pa_cons (pv 2) pa_nil)))))) 
        (pss_one ps_never
        )
       pss_nil)
      (pss_cons (ps_fld (pv 0) (pv 1) rfl)
      (pss_cons (ps_fld (pv 0) (pe_callTy (tupleK K) (by rfl) T.m_tuple PyProof.Rows.boot_tuple (pa_cons (pv 2) pa_nil)) rfl)
      (pss_cons (ps_fld (pv 0) (pv 3) rfl)
      (pss_cons (ps_fld (pv 0) (pe_callTy (tupleK K) (by rfl) T.m_tuple PyProof.Rows.boot_tuple (pa_cons (pe_lc (own := [("targets", 7)]) rfl sc_init.nd (pi_seq (pv 4)) (blkOk_by (N := n_init) (sc := fnScope s_init) (by decide +kernel)) (fun _ _ _ _ _ => (pg_name (i := 7) sc_init.nd rfl (.inl rfl))) (fun _ _ _ _ _ => pts_nil) (fun _ _ _ _ _ => (pe_callTy (tupleK K) (by rfl) T.m_tuple PyProof.Rows.boot_tuple (pa_cons (pv 7) pa_nil)))) pa_nil)) rfl)
      (pss_cons (ps_fld (pv 0) (pe_dc (own := [("at", 5), ("mark", 6)]) rfl sc_init.nd (pi_enumX (by rfl) T.m_enumerate (pa_cons (fldK K (pv 0) rfl) pa_nil)) (blkOk_by (N := n_init) (sc := fnScope s_init) (by decide +kernel)) (fun _ _ _ _ _ => (tupK K 2 (pgs_cons (pg_name (i := 5) sc_init.nd rfl (.inl rfl)) (pgs_cons (pg_name (i := 6) sc_init.nd rfl (.inl rfl)) pgs_nil)))) (fun _ _ _ _ _ => pts_nil) (fun _ _ _ _ _ => (pv 6)) (fun _ _ _ _ _ => (pv 5))) rfl)
      (pss_cons (ps_fld (pv 0) (pe_dc (own := [("mark", 6), ("targets", 7)]) rfl sc_init.nd (pi_zipX (by rfl) T.m_zip (pa_cons (fldK K (pv 0) rfl) (pa_cons (fldK K (pv 0) rfl) pa_nil))) (blkOk_by (N := n_init) (sc := fnScope s_init) (by decide +kernel)) (fun _ _ _ _ _ => (tupK K 2 (pgs_cons (pg_name (i := 6) sc_init.nd rfl (.inl rfl)) (pgs_cons (pg_name (i := 7) sc_init.nd rfl (.inl rfl)) pgs_nil)))) (fun _ _ _ _ _ => pts_nil) (fun _ _ _ _ _ => (pv 6)) (fun _ _ _ _ _ => (dictZipK K rfl (by rfl) T.m_dict (by rfl) T.m_zip (pa_cons (pv 1) (pa_cons (pv 7) pa_nil))))) rfl)
      (pss_one (ps_fld (pv 0) (pe_c c_cols hr (by first | decide | omega) (by rfl) (pa_cons (pv 1) (pa_cons (pe_c c_table hr (by first | decide | omega) (by rfl) (pa_cons (pv 0) pa_nil)) pa_nil))) rfl)
      ))))))))))), ?_⟩
    refine ⟨_, rfl, sg, rfl, hgd.hsg, fun H1 s1 => ?_⟩
    refine ⟨true, rfl, iteN rfl ?_⟩
    refine ⟨_, rfl, q, b, ms, rfl, s1 _ _ hq, hgd.h1, by have := hgd.h8; omega, hgd.hnd, hgd.hnm, fun H2 s2 => ?_⟩
    refine ⟨true, rfl, iteN rfl ?_⟩
    have s12 := s1.trans s2
    refine ⟨_, rfl, _, rfl, q, txs ms, rfl, (all_of hq s12).or, rfl, flat_txs _, _, rfl, ?_⟩
    refine iteN (by rw [inV_txs, decide_eq_true hgd.hf]; rfl) ?_
    have hpa2 : ∀ (i : Nat) (x : Addr) (ts : List (List Nat)), (ms.map pa)[i]? = some x → (ms.map fun m => sg.map (tg m))[i]? = some ts → H2 x = some (seqB d (txs ts)) ∧ ts.length = sg.length ∧ ∀ t ∈ ts, t ∈ ms := fun i x ts e1 e2 => by
      rw [List.getElem?_map] at e1 e2
      cases e : ms[i]? with
      | none => rw [e] at e1; cases e1
      | some m =>
        rw [e] at e1 e2
        cases e1; cases e2
        have hmm := List.mem_of_getElem? e
        exact ⟨s12 _ _ (hpa m hmm), by rw [List.length_map], fun t ht => let ⟨c, hc, e⟩ := List.mem_map.mp ht; e ▸ hgd.htg m hmm c hc⟩
    refine ⟨_, rfl, _, rfl, _, rfl, p, q, c, d, b, ms.map pa, ms.map fun m => sg.map (tg m), ms, sg, rfl, by rw [List.map_map]; exact s12 _ _ hp, s12 _ _ hq, hgd.hsg.2.2.1, by have := hgd.h8; omega, by rw [List.length_map], by rw [List.length_map, List.length_map], hpa2, fun H3 s3 => ?_⟩
    refine ⟨true, rfl, iteN rfl ?_⟩
    have s13 := s12.trans s3
    have ha3 := s13 _ _ ha
    refine ⟨_, rfl, _, rfl, a, C, dx, [], rfl, ha3, CH.cl, CH.nS, (by show 0 < 1000; decide), ?_⟩
    have nqa : q ≠ a := ne_of (s13 _ _ hq) ha3 (by cases b <;> (intro h; cases h))
    have npa : p ≠ a := ne_of (s13 _ _ hp) ha3 (by cases c <;> (intro h; cases h))
    generalize hH4 : upd H3 a (.ins C dx (putF ("signs" : Str) (.str (S sg)) [])) = H4
    have k4 : ∀ x o, x ≠ a → H3 x = some o → H4 x = some o := fun x o n e => by rw [← hH4, upd_ne n]; exact e
    have ha4 : H4 a = some (.ins C dx [("signs", .str (S sg))]) := by rw [← hH4, upd_same]; rfl
    clear hH4
    unfold tSeq
    dsimp only
    unfold sFld
    refine tCB_tup (i := 2) rfl (k4 _ _ nqa (s13 _ _ hq)) fun m H5 s5 hm5 hmq hmn => ?_
    have ha5 := s5 _ _ ha4
    refine ⟨_, rfl, a, C, dx, _, rfl, ha5, CH.cl, CH.nM, (by show 1 < 1000; decide), ?_⟩
    rw [pf2]
    have nma : m ≠ a := ne_of hm5 ha5 (by intro h; cases h)
    generalize hH6 : upd H5 a (.ins C dx [("signs", .str (S sg)), ("marks", .ref m)]) = H6
    have k6 : ∀ x o, x ≠ a → H3 x = some o → H6 x = some o := fun x o n e => by rw [← hH6, upd_ne n]; exact s5 _ _ (k4 _ _ n e)
    have hm6 : H6 m = some (.tup (txs ms)) := by rw [← hH6, upd_ne nma]; exact hm5
    have ha6 : H6 a = some (.ins C dx [("signs", .str (S sg)), ("marks", .ref m)]) := by rw [← hH6, upd_same]
    clear hmq hmn
    clear hH6 hm5 ha5 s5 k4 ha4 H5 H4
    refine ⟨_, rfl, _, rfl, a, C, dx, _, rfl, ha6, CH.cl, CH.nF, (by show 2 < 1000; decide), ?_⟩
    rw [pf3]
    generalize hH7 : upd H6 a (.ins C dx [("signs", .str (S sg)), ("marks", .ref m), ("first", .str (S f))]) = H7
    have k7 : ∀ x o, x ≠ a → H3 x = some o → H7 x = some o := fun x o n e => by rw [← hH7, upd_ne n]; exact k6 _ _ n e
    have hm7 : H7 m = some (.tup (txs ms)) := by rw [← hH7, upd_ne nma]; exact hm6
    have ha7 : H7 a = some (.ins C dx [("signs", .str (S sg)), ("marks", .ref m), ("first", .str (S f))]) := by rw [← hH7, upd_same]
    clear hH7 hm6 ha6 k6 H6
    have hp7 := k7 _ _ npa (s13 _ _ hp)
    have hpa7 : ∀ x ∈ ms, H7 (pa x) = some (seqB d (txs (sg.map (tg x)))) := fun x hx => k7 _ _ (ne_of (s13 _ _ (hpa x hx)) ha3 (by cases d <;> (intro h; cases h))) (s13 _ _ (hpa x hx))
    have hsgn : sg.Nodup := hgd.hsg.1.imp fun h => by omega
    have h8 := hgd.h8
    refine ⟨_, rfl, p, c, _, rfl, SqB.of hp7, fun D hD => lc_keepH keep_same (walk_seq (K := K) (b := c) (a := p) (xs := ms.map fun x => V.ref (pa x))) hD (by rw [List.length_map]; exact small1000 (by omega)) (fun j y H => ∃ t, y = .ref t ∧ ∀ mm, ms[j]? = some mm → H t = some (.tup (txs (sg.map (tg mm))))) (fun H r => SqB.of (r _ _ hp7))
      (fun _ _ _ _ _ r ⟨t, e, h⟩ => ⟨t, e, fun mm hm => r _ _ (h mm hm)⟩) (fun _ _ _ _ _ _ hDa ⟨t, e, h⟩ => ⟨t, e, fun mm hm => by rw [upd_ne (ne_of (h mm hm) hDa (by intro h; cases h))]; exact h mm hm⟩) (fun i x H8 H8' acc R hi r hDa hy hR => ?_) (fun ys H8 hly hg r8 hDs => ?_)⟩
    · obtain ⟨rfl, e⟩ := hy
      rw [List.getElem?_map] at e
      cases em : ms[i]? with
      | none => rw [em] at e; cases e
      | some mm =>
        rw [em] at e; cases e
        refine ⟨rfl, ?_⟩
        refine ⟨_, rfl, pa mm, _, rfl, tupA (Q := R) (r _ _ (hpa7 mm (List.mem_of_getElem? em))) fun l H9 s9 hl9 _ _ => hR _ _ s9 ⟨l, rfl, fun m2 h2 => by rw [em] at h2; cases h2; exact hl9⟩⟩
    rw [List.length_map] at hly
    obtain ⟨sa, hsa⟩ := fun_of (γ := Addr) hgd.hnd (P := fun j mm t => ys[j]? = some (V.ref t) ∧ H8 t = some (.tup (txs (sg.map (tg mm))))) fun j mm hj => by
      have hjl : j < ys.length := by rw [hly]; exact (List.getElem?_eq_some_iff.mp hj).1
      obtain ⟨t, e, h⟩ := hg j _ (List.getElem?_eq_getElem hjl)
      exact ⟨t, by rw [List.getElem?_eq_getElem hjl, e], h mm hj⟩
    have eys : ys = ms.map fun x => V.ref (sa x) := list_map hly fun j y x e1 e2 => by have := (hsa j x e2).1; rw [e1] at this; exact Option.some.inj this
    have hsa8 : ∀ x ∈ ms, H8 (sa x) = some (.tup (txs (sg.map (tg x)))) := fun x hx => by obtain ⟨j, hj⟩ := List.getElem?_of_mem hx; exact (hsa j x hj).2
    clear hsa
    subst eys
    refine nil1 ⟨D, _, rfl, .inl ⟨SqL.of hDs, fun st hst => ?_⟩⟩
    have ha8 := r8 _ _ ha7
    have nsta : st ≠ a := (ne_of_none ha8 hst).symm
    refine ⟨_, rfl, a, C, dx, _, rfl, (by rw [upd_ne nsta.symm]; exact ha8), CH.cl, CH.nT, (by show 3 < 1000; decide), ?_⟩
    rw [pf4]
    generalize hH9 : upd (upd H8 st (.tup (ms.map fun x => V.ref (sa x)))) a (.ins C dx [("signs", .str (S sg)), ("marks", .ref m), ("first", .str (S f)), ("steps", .ref st)]) = H9
    have k9 : ∀ x o, x ≠ a → H8 x = some o → H9 x = some o := fun x o n e => by rw [← hH9, upd_ne n, upd_ne (ne_of_none e hst)]; exact e
    have hm9 : H9 m = some (.tup (txs ms)) := k9 _ _ nma (r8 _ _ hm7)
    have hst9 : H9 st = some (.tup (ms.map fun x => V.ref (sa x))) := by rw [← hH9, upd_ne nsta, upd_same]
    have hsa9 : ∀ x ∈ ms, H9 (sa x) = some (.tup (txs (sg.map (tg x)))) := fun x hx => k9 _ _ (ne_of (hsa8 x hx) ha8 (by intro h; cases h)) (hsa8 x hx)
    have ha9 : H9 a = some (.ins C dx [("signs", .str (S sg)), ("marks", .ref m), ("first", .str (S f)), ("steps", .ref st)]) := by rw [← hH9, upd_same]
    have kk9 : ∀ x o, x ≠ a → H3 x = some o → H9 x = some o := fun x o n e => k9 _ _ n (r8 _ _ (k7 _ _ n e))
    clear hH9 k9 hsa8 ha8 hst hDs hly hg r8 hD hpa7 hp7 k7 hm7 ha7
    refine ⟨_, rfl, a, C, dx, _, _, rfl, ha9, CH.cl, CH.nM, (show _ = some (V.ref m) by rfl), ?_⟩
    refine nil1 ⟨.ref m, .tup m, rfl, rfl, ⟨_, SqT.of hm9⟩, fun D2 hD2 => ?_⟩
    refine dc_keep keep_same (walk_enumX (K := K) (S := .tup m) (xs := txs ms)) hD2 (by rw [txs_len]; exact small1000 (by omega)) (fun i => tk (ms.getD i [])) (fun j y H => y = .int (j : Nat)) (fun H r => SqT.of (r _ _ hm9)) (fun i j hi hj => key_inj hgd.hnd i j (by rw [txs_len] at hi; exact hi) hj)
      (fun _ _ _ _ _ _ h => h) (fun _ _ _ _ _ _ _ h => h) (fun i x H10 H11 acc R hi r hDa hy hR => ?_) (fun ys H10 hly hg r10 hDs => ?_)
    · obtain ⟨t, x1, x2, rfl, ht, rfl, e1, e2⟩ := hy
      obtain rfl : V.int (i : Nat) = x1 := Option.some.inj e1
      obtain ⟨mm, hmm, rfl⟩ := txs_get (show (txs ms)[i]? = some x2 from e2)
      refine ⟨t, _, rfl, .inl (.inl upd_same), rfl, _, _, rfl, _, _, rfl, rfl, rfl, ?_⟩
      refine ⟨_, rfl, _, rfl, ?_⟩
      rw [getD_of hmm] at hR
      exact hR _ _ (sm_new ht) rfl
    have eys : ys = (List.range ms.length).map fun j => V.int (j : Nat) := list_of (by rw [hly, txs_len]) fun j y e => hg j y e
    subst eys
    have hnu10 : H10 D2 = some (.dK (numK ms)) := by
      rw [hDs, txs_len, zip_self_map (fun i => tk (ms.getD i []))]; rfl
    clear hDs hg hly
    have ha10 := r10 _ _ ha9
    have nD2a : D2 ≠ a := ne_of hnu10 ha10 (by intro h; cases h)
    refine ⟨_, rfl, a, C, dx, _, rfl, ha10, CH.cl, CH.nN, (by show 4 < 1000; decide), ?_⟩
    rw [pf5]
    generalize hH11 : upd H10 a (.ins C dx [("signs", .str (S sg)), ("marks", .ref m), ("first", .str (S f)), ("steps", .ref st), ("_numbers", .ref D2)]) = H11
    have k11 : ∀ x o, x ≠ a → H10 x = some o → H11 x = some o := fun x o n e => by rw [← hH11, upd_ne n]; exact e
    have hm11 := k11 _ _ nma (r10 _ _ hm9)
    have hst11 := k11 _ _ nsta (r10 _ _ hst9)
    have hsa11 : ∀ x ∈ ms, H11 (sa x) = some (.tup (txs (sg.map (tg x)))) := fun x hx => k11 _ _ (ne_of (hsa9 x hx) ha9 (by intro h; cases h)) (r10 _ _ (hsa9 x hx))
    have hnu11 := k11 _ _ nD2a hnu10
    have ha11 : H11 a = some (.ins C dx [("signs", .str (S sg)), ("marks", .ref m), ("first", .str (S f)), ("steps", .ref st), ("_numbers", .ref D2)]) := by rw [← hH11, upd_same]
    have kk11 : ∀ x o, x ≠ a → H3 x = some o → H11 x = some o := fun x o n e => k11 _ _ n (r10 _ _ (kk9 _ _ n e))
    clear hH11 k11 hnu10 ha10 r10 hD2 hm9 hst9 hsa9 ha9 kk9
    refine ⟨_, rfl, a, C, dx, _, _, rfl, ha11, CH.cl, CH.nM, (show _ = some (V.ref m) by rfl), ?_⟩
    refine ⟨_, rfl, a, C, dx, _, _, rfl, ha11, CH.cl, CH.nT, (show _ = some (V.ref st) by rfl), ?_⟩
    refine nil1 ⟨.ref m, .ref st, .tup m, .tup st, rfl, rfl, rfl, ⟨_, SqT.of hm11⟩, ⟨_, SqT.of hst11⟩, fun D3 hD3 => ?_⟩
    refine dc_keep (n := min (txs ms).length (ms.map fun x => V.ref (sa x)).length) keep_same (walk_zipX (K := K) (S1 := .tup m) (S2 := .tup st) (xs := txs ms) (ys := ms.map fun x => V.ref (sa x))) hD3 (Nat.lt_of_le_of_lt (Nat.min_le_left _ _) (by rw [txs_len]; exact small1000 (by omega))) (fun i => tk (ms.getD i [])) (fun j y H => ∃ t, y = .ref t ∧ t ≠ D3 ∧ ∀ mm, ms[j]? = some mm → H t = some (.dK (laK sg (tg mm)))) (fun H r => ⟨SqT.of (r _ _ hm11), SqT.of (r _ _ hst11)⟩)
      (fun i j hi hj => key_inj hgd.hnd i j (by rw [txs_len] at hi; exact Nat.lt_of_lt_of_le hi (Nat.min_le_left _ _)) hj)
      (fun _ _ _ _ _ r ⟨t, e, n, h⟩ => ⟨t, e, n, fun mm hm => r _ _ (h mm hm)⟩) (fun _ _ _ _ _ _ _ ⟨t, e, n, h⟩ => ⟨t, e, n, fun mm hm => by rw [upd_ne n]; exact h mm hm⟩) (fun i x H12 H13 acc R hi r hDa hy hR => ?_) (fun ys H12 hly hg r12 hDs => ?_)
    · obtain ⟨t, x1, x2, rfl, ht, rfl, e1, e2⟩ := hy
      obtain ⟨mm, hmm, rfl⟩ := txs_get (show (txs ms)[i]? = some x1 from e1)
      have e2 : (ms.map fun x => V.ref (sa x))[i]? = some x2 := e2
      rw [List.getElem?_map, hmm] at e2
      obtain rfl : V.ref (sa mm) = x2 := Option.some.inj e2
      have hmem := List.mem_of_getElem? hmm
      refine ⟨t, _, rfl, .inl (.inl upd_same), rfl, _, _, rfl, _, _, rfl, rfl, rfl, ?_⟩
      refine ⟨_, rfl, _, rfl, _, rfl, sg, sa mm, txs (sg.map (tg mm)), rfl, SqT.of ((sm_new ht) _ _ (r _ _ (hsa11 mm hmem))), by rw [txs_len, List.length_map], by have := hgd.hsg.2.2.1; omega, fun d2 hd2 => ?_⟩
      rw [la_dict hsgn]
      have hne : d2 ≠ D3 := fun e => by rw [e, upd_ne (ne_of_none hDa ht)] at hd2; rw [hDa] at hd2; cases hd2
      rw [getD_of hmm] at hR
      exact hR _ _ (sm_put' (sm_new ht) hd2) ⟨d2, rfl, hne, fun m2 h2 => by rw [hmm] at h2; cases h2; exact upd_same⟩
    have hly2 : ys.length = ms.length := by rw [hly, txs_len, List.length_map, Nat.min_self]
    obtain ⟨la, hla⟩ := fun_of (γ := Addr) hgd.hnd (P := fun j mm t => ys[j]? = some (V.ref t) ∧ H12 t = some (.dK (laK sg (tg mm)))) fun j mm hj => by
      have hjl : j < ys.length := by rw [hly2]; exact (List.getElem?_eq_some_iff.mp hj).1
      obtain ⟨t, e, _, h⟩ := hg j _ (List.getElem?_eq_getElem hjl)
      exact ⟨t, by rw [List.getElem?_eq_getElem hjl, e], h mm hj⟩
    have eys : ys = ms.map fun x => V.ref (la x) := list_map hly2 fun j y x e1 e2 => by have := (hla j x e2).1; rw [e1] at this; exact Option.some.inj this
    have hla12 : ∀ x ∈ ms, H12 (la x) = some (.dK (laK sg (tg x))) := fun x hx => by obtain ⟨j, hj⟩ := List.getElem?_of_mem hx; exact (hla j x hj).2
    subst eys
    have hle12 : H12 D3 = some (.dK (leK ms la)) := by
      rw [hDs, txs_len, List.length_map, Nat.min_self]
      have e : (ms.map fun x => V.ref (la x)) = (List.range ms.length).map fun i => V.ref (la (ms.getD i [])) := by
        refine (list_of (by rw [List.length_map]) fun j y hy => ?_)
        rw [List.getElem?_map] at hy
        cases q : ms[j]? with
        | none => rw [q] at hy; cases hy
        | some x => rw [q] at hy; cases hy; rw [getD_of q]
      rw [e, zip_self_map (fun i => tk (ms.getD i []))]
      congr 2
      symm
      unfold leK
      refine list_of (f := fun i => (tk (ms.getD i []), V.ref (la (ms.getD i [])))) (by rw [List.length_map]) fun j y hy => ?_
      rw [List.getElem?_map] at hy
      cases q : ms[j]? with
      | none => rw [q] at hy; cases hy
      | some x => rw [q] at hy; cases hy; rw [getD_of q]
    have ha12 := r12 _ _ ha11
    refine ⟨_, rfl, a, C, dx, _, rfl, ha12, CH.cl, CH.nL, (by show 5 < 1000; decide), ?_⟩
    rw [pf6]
    have hR0 : RdrAt C (upd H12 a (.ins C dx (rdF sg m f st D2 D3 []))) a sg ms f tg dx m st D2 D3 sa la [] := by
      refine ⟨upd_same, ?_, ?_, fun x hx => ?_, ?_, ?_, fun x hx => ?_⟩
      · rw [upd_ne nma]; exact r12 _ _ hm11
      · rw [upd_ne nsta]; exact r12 _ _ hst11
      · rw [upd_ne (ne_of (hsa11 x hx) ha11 (by intro h; cases h))]; exact r12 _ _ (hsa11 x hx)
      · rw [upd_ne nD2a]; exact r12 _ _ hnu11
      · rw [upd_ne (ne_of hle12 ha12 (by intro h; cases h))]; exact hle12
      · rw [upd_ne (ne_of (hla12 x hx) ha12 (by intro h; cases h))]; exact hla12 x hx
    have kk13 : ∀ x o, x ≠ a → H3 x = some o → (upd H12 a (.ins C dx (rdF sg m f st D2 D3 []))) x = some o := fun x o n e => by rw [upd_ne n]; exact r12 _ _ (kk11 _ _ n e)
    show (fun H13 => _) (upd H12 a (.ins C dx (rdF sg m f st D2 D3 [])))
    generalize upd H12 a (.ins C dx (rdF sg m f st D2 D3 [])) = H13 at hR0 kk13 ⊢
    refine ⟨_, rfl, _, rfl, a, sg, ms, f, tg, rfl, ⟨dx, m, st, D2, D3, sa, la, [], .inl rfl, hR0⟩, hgd, fun tb ra H14 s14 n14 h14 hra => ?_⟩
    refine ⟨tb, sg, ms, tg, ra, rfl, h14, hra, by omega, hgd.hsg.2.2.1, hsgn, fun co ca H15 s15 n15 hcol => ?_⟩
    have hR2 := hR0.same (s14.trans s15)
    refine ⟨_, rfl, a, C, dx, _, rfl, hR2.ha, CH.cl, CH.nC, (by show 6 < 1000; decide), ?_⟩
    rw [show putF ("_columns" : Str) (V.ref co) (rdF sg m f st D2 D3 []) = rdF sg m f st D2 D3 [("_columns", .ref co)] from pf7 _ _ _ _ _ _ _]
    have nin : ∀ {x : Addr} {o : HO}, H15 x = some o → (∀ c d fs, o ≠ .ins c d fs) → x ≠ a := fun e n z => by rw [z, hR2.ha] at e; exact n _ _ _ (Option.some.inj e).symm
    refine k _ (fun x o n e => by rw [upd_ne n]; exact (s14.trans s15) _ _ (kk13 _ _ n (s13 _ _ e))) ⟨dx, m, st, D2, D3, sa, la, co, ca, ⟨upd_same, ?_, ?_, fun x hx => ?_, ?_, ?_, fun x hx => ?_⟩, ⟨?_, fun c hc => ?_⟩⟩
    · rw [upd_ne (nin hR2.hm (by intro _ _ _ h; cases h))]; exact hR2.hm
    · rw [upd_ne (nin hR2.hst (by intro _ _ _ h; cases h))]; exact hR2.hst
    · rw [upd_ne (nin (hR2.hsa x hx) (by intro _ _ _ h; cases h))]; exact hR2.hsa x hx
    · rw [upd_ne (nin hR2.hnu (by intro _ _ _ h; cases h))]; exact hR2.hnu
    · rw [upd_ne (nin hR2.hle (by intro _ _ _ h; cases h))]; exact hR2.hle
    · rw [upd_ne (nin (hR2.hla x hx) (by intro _ _ _ h; cases h))]; exact hR2.hla x hx
    · rw [upd_ne (nin hcol.hco (by intro _ _ _ h; cases h))]; exact hcol.hco
    · rw [upd_ne (nin (hcol.hca c hc) (by intro _ _ _ h; cases h))]; exact hcol.hca c hc
end
end Toy
set_option maxHeartbeats 2000000
namespace LX
open PySem PySem.Spec PyProof.Rows L2 C8 SX
structure Fit (k n : Nat) (d : PyData) : Prop where
  lay : d.canLay0 = true
  int : d.intsShort 13 = true
  sho : d.showable = true
  dep : d.depth ≤ k
  wei : d.weight ≤ n
theorem Fit.mono {k n k' n' : Nat} {d : PyData} (f : Fit k n d) (hk : k ≤ k') (hn : n ≤ n') : Fit k' n' d := ⟨f.lay, f.int, f.sho, Nat.le_trans f.dep hk, Nat.le_trans f.wei hn⟩
theorem Fit.text {k n : Nat} {l : List Nat} (h : ∀ c ∈ l, c < 1114112) (hn : l.length ≤ n) : Fit k n (.str (S l)) := by
  refine ⟨?_, rfl, rfl, Nat.zero_le _, by simpa [PyData.weight, S] using hn⟩
  show (S l).cps.all (· < 0x110000) = true
  rw [← Array.all_toList, List.all_eq_true]
  exact fun c hc => decide_eq_true (h c hc)
theorem Fit.non {k n : Nat} : Fit k n .none := ⟨rfl, rfl, rfl, Nat.zero_le _, Nat.zero_le _⟩
theorem Fit.bl {k n : Nat} {b : Bool} : Fit k n (.bool b) := ⟨rfl, rfl, rfl, Nat.zero_le _, Nat.zero_le _⟩
theorem Fit.all {k n : Nat} : ∀ {ds : List PyData}, (∀ d ∈ ds, Fit k n d) → PyData.canLayAll0 ds = true ∧ PyData.intsShortAll 13 ds = true ∧ PyData.showableAll ds = true ∧ PyData.depthAll ds ≤ k + 1 ∧ PyData.weightAll ds ≤ ds.length * (n + 1)
  | [], _ => ⟨rfl, rfl, rfl, Nat.zero_le _, Nat.zero_le _⟩
  | d :: ds, h => by
    obtain ⟨h1, h2, h3, h4, h5⟩ := Fit.all (ds := ds) fun x hx => h x (List.mem_cons_of_mem _ hx)
    have f := h d List.mem_cons_self
    refine ⟨?_, ?_, ?_, ?_, ?_⟩
    · show (d.canLay0 && PyData.canLayAll0 ds) = true; rw [f.lay, h1]; rfl
    · show (d.intsShort 13 && PyData.intsShortAll 13 ds) = true; rw [f.int, h2]; rfl
    · show (d.showable && PyData.showableAll ds) = true; rw [f.sho, h3]; rfl
    · have e : PyData.depthAll (d :: ds) = max d.depth (PyData.depthAll ds) ∨ PyData.depthAll (d :: ds) ≤ max (d.depth + 1) (PyData.depthAll ds) := by
        first | exact .inl rfl | exact .inr (by unfold PyData.depthAll; omega)
      have := f.dep
      rcases e with e | e
      · rw [e]; omega
      · omega
    · show d.weight + 1 + PyData.weightAll ds ≤ _
      have := f.wei
      rw [List.length_cons, Nat.add_mul]
      omega
theorem Fit.tup {k n m : Nat} {ds : List PyData} (h : ∀ d ∈ ds, Fit k n d) (hm : ds.length ≤ m) : Fit (k + 2) (m * (n + 1)) (.tuple ds) := by
  obtain ⟨h1, h2, h3, h4, h5⟩ := Fit.all h
  refine ⟨h1, h2, h3, ?_, Nat.le_trans h5 (Nat.mul_le_mul_right _ hm)⟩
  show PyData.depthAll ds + 1 ≤ _
  omega
theorem Fit.lst {k n m : Nat} {ds : List PyData} (h : ∀ d ∈ ds, Fit k n d) (hm : ds.length ≤ m) : Fit (k + 2) (m * (n + 1)) (.list ds) := by
  obtain ⟨h1, h2, h3, h4, h5⟩ := Fit.all h
  refine ⟨h1, h2, h3, ?_, Nat.le_trans h5 (Nat.mul_le_mul_right _ hm)⟩
  show PyData.depthAll ds + 1 ≤ _
  omega
theorem Fit.size {k n : Nat} {d : PyData} (f : Fit k n d) (hn : n ≤ 1000000) : d.shown.length ≤ sizeLine := by
  have h := PyData.shown_le 13 (by decide) d (PyData.leavesShort_of_canLay0 13 d f.lay f.int)
  have := f.wei
  have e : sizeLine = 16777216 := rfl
  omega
theorem Fit.shaped {k n : Nat} {d : PyData} (f : Fit k n d) (hk : k ≤ 60) (h : (∃ ds, d = .tuple ds) ∨ ∃ ds, d = .list ds) : SeqAt.shaped d = true := by
  rcases h with ⟨ds, rfl⟩ | ⟨ds, rfl⟩
  · show (PyData.canLayAll0 ds && decide (PyData.depthAll ds + 1 ≤ 64)) = true
    have h1 : PyData.canLayAll0 ds = true := f.lay
    have h2 : PyData.depthAll ds + 1 ≤ k := f.dep
    rw [h1, Bool.true_and, decide_eq_true_eq]; omega
  · show (PyData.canLayAll0 ds && decide (PyData.depthAll ds + 1 ≤ 64)) = true
    have h1 : PyData.canLayAll0 ds = true := f.lay
    have h2 : PyData.depthAll ds + 1 ≤ k := f.dep
    rw [h1, Bool.true_and, decide_eq_true_eq]; omega
section
variable {X : Cx} {j : Nat}
theorem call_reprF (gd : X.A.guards = some []) (room : Room j X.A) (K : PySem.W.Frag) (hK : X.K = K := by rfl) : CallR X (.builtin "repr") (fun xs H Q => ∃ (a : Addr) (d : PyData) (k n : Nat), xs = [.ref a] ∧ Dp K H (.ref a) d ∧ Fit k n d ∧ k ≤ 60 ∧ n ≤ 1000000 ∧ Q (.str d.shown) H) := by
  subst hK
  intro pins s σ H xs us Q I rel want
  obtain ⟨a, d, k, n, rfl, hd, f, hk, hn, q⟩ := want
  exact call_reprG gd room pins s σ H _ us Q I rel ⟨a, d, rfl, hd, f.sho, PyData.hasDict_of_canLay d f.lay, Nat.le_trans f.dep hk, f.size hn, q⟩
end
mutual
theorem Dp.same {K : PySem.W.Frag} {H H' : Hp} (s : Same H H') : ∀ {d : PyData} {v : V}, Dp K H v d → Dp K H' v d
  | .none, _, h => by cases h; exact .non
  | .bool _, _, h => by cases h; exact .bl _
  | .int _, _, h => by cases h; exact .int _
  | .str _, _, h => by cases h; exact .str _
  | .list _, _, h => by cases h with | lst q r => exact .lst (s.seq q) (DpAll.same s r)
  | .tuple _, _, h => by cases h with | tup q r => exact .tup (sm_seqT s q) (DpAll.same s r)
  | .dict _, _, h => by cases h
theorem DpAll.same {K : PySem.W.Frag} {H H' : Hp} (s : Same H H') : ∀ {ds : List PyData} {vs : List V}, DpAll K H vs ds → DpAll K H' vs ds
  | [], _, h => by cases h; exact .nil
  | _ :: _, _, h => by cases h with | cons q r => exact .cons (Dp.same s q) (DpAll.same s r)
end
theorem dpAll_get {K : PySem.W.Frag} {H : Hp} {α : Type} {f : α → V} {g : α → PyData} : ∀ {xs : List α}, (∀ x ∈ xs, Dp K H (f x) (g x)) → DpAll K H (xs.map f) (xs.map g)
  | [], _ => .nil
  | x :: xs, h => .cons (h x List.mem_cons_self) (dpAll_get fun y hy => h y (List.mem_cons_of_mem _ hy))
end LX
set_option maxHeartbeats 2000000
namespace LX
open PySem PySem.Spec PyProof.Rows L2 C8 SX
section
variable {X : Cx}
theorem pe_joinK (K : PySem.W.Frag) {o e : Expr} {to te : TE} {apos pos : Pos} (ho : PE X o to) (he : PE X e te) (hK : X.K = K := by rfl) (hs : starEach [e] X.env = [(false, eval e X.env)] := by rfl) (hbase : attributeBase o "join" X.env (eval o X.env) = eval o X.env := by rfl) (hline : (apos.endLine == pos.line) = true := by rfl) :
    PE X (.Call (.Attribute o "join" apos) [e] [] pos) (tM1 (fun x xs H Q => ∃ a p, ∃ ys : List Str, x = .str a ∧ xs = [.ref p] ∧ (SqL K H p (ys.map V.str) ∨ SqT K H p (ys.map V.str)) ∧
      (ys.map (·.length)).sum + ys.length * a.length ≤ 16777216 ∧ Q (.str (Txt.join a ys)) H) to te) := by subst hK; exact pe_join ho he hs hbase hline
end
def tJd (ts : List TE) : TE := fun σ H Q => tJs ts Str.empty σ H fun out H1 => Q (.str out) H1
theorem pe_joinedD {X : Cx} {v1 v2 : Expr} {rest : List Expr} {ts : List TE} {pos : Pos} (h : PJ X (v1 :: v2 :: rest) ts) : PE X (.JoinedStr (v1 :: v2 :: rest) pos) (tJd ts) := pe_joined h
theorem joinL_len {sep : List Nat} {m : Nat} : ∀ {ys : List (List Nat)}, (∀ y ∈ ys, y.length ≤ m) → (TL.joinL sep ys).length ≤ ys.length * (m + sep.length)
  | [], _ => by simp [TL.joinL]
  | [y], h => by
    have := h y List.mem_cons_self
    simp [TL.joinL]
    omega
  | y :: z :: ys, h => by
    have ih := joinL_len (sep := sep) (ys := z :: ys) fun x hx => h x (List.mem_cons_of_mem _ hx)
    have h1 := h y List.mem_cons_self
    have e : TL.joinL sep (y :: z :: ys) = y ++ sep ++ TL.joinL sep (z :: ys) := by simp [TL.joinL]
    rw [e, List.length_append, List.length_append, List.length_cons, Nat.add_mul]
    omega
theorem sum_lens {m : Nat} : ∀ {ys : List (List Nat)}, (∀ l ∈ ys, l.length ≤ m) → ((ys.map S).map (·.length)).sum ≤ ys.length * m
  | [], _ => by simp
  | y :: ys, h => by
    have ih := sum_lens (m := m) (ys := ys) fun l hl => h l (List.mem_cons_of_mem _ hl)
    have h0 := h y List.mem_cons_self
    simp only [List.map_cons, List.sum_cons, List.length_cons]
    rw [S_len, Nat.add_mul]
    omega
theorem joinS_ok {m n : Nat} {sep : List Nat} {ys : List (List Nat)} (h : ∀ l ∈ ys, l.length ≤ m) (hn : ys.length ≤ n) (hm : n * (m + sep.length) ≤ 16000000) : ((ys.map S).map (·.length)).sum + (ys.map S).length * (S sep).length ≤ 16777216 := by
  rw [S_len, List.length_map]
  have := sum_lens h
  have h2 : ys.length * (m + sep.length) ≤ n * (m + sep.length) := Nat.mul_le_mul_right _ hn
  rw [Nat.mul_add] at h2
  omega
end LX
set_option maxHeartbeats 2000000
namespace LX
open PySem PySem.Spec PyProof.Rows L2 C8 SX
section
variable {X : Cx} {k j : Nat} {C : Addr} {sp : Sp}
theorem met_runV {mth : Str} {pins : List (Addr × Obj)} {σ : L2.St} {H : Hp} {s : Shared} {A : Around} {a : Addr} {y : V} {u : Value} {Q : Value → Shared → Prop} (c : Met X.prog X.w X.K X.mg X.base k C mth sp []) (hr : Room k A) (hfr : A.frames = X.A.frames) (I : Inv X pins σ H s) (ry : RelV y u)
    {R : VK} (hsp : sp [.ref a, y] H R C8.E0) (hQ : ∀ v z H' s', Inv X pins σ H' s' → RelV z v → R z H' → Q v s') :
    ∃ f, PySem.W.findIn X.K (.ref C) mth = some (some (.ref f)) ∧ PySem.W.isFn X.K (.ref f) = true ∧ wpAny (model X.prog X.w) A (call (.ref f) [.ref a, u]) Q X.xe s := by
  obtain ⟨f, fd, ps, ds, hc, hm, F, hb, hd⟩ := c.ex
  refine ⟨f, hm.at_, hm.fn, ?_⟩
  have e0 : Env0 X.prog X.w X.K X.mg X.base A X.stack s H := by
    have e := I.env0
    exact ⟨by rw [hfr]; exact e.frames, e.mod, e.bs, e.bsz, e.funs, e.frf, e.hok, e.bare⟩
  have hds : ds = [] := by cases hd; rfl
  subst hds
  have hl := F.len _ _ _ _ hsp
  have r2 : Vals [V.ref a, y] [Value.ref a, u] := .cons rfl (.cons ry .nil)
  refine wpAny_call (codeAny_mono (F.run A X.stack s H ⟨[.ref a, u], []⟩ [.ref a, u] [.ref a, y] _ C8.E0 hr e0 (by
    have := hb s [.ref a, u] I.kIn (by simpa using hl)
    simpa using this) r2 hsp) fun r s' hq => ?_)
  cases r with
  | error e => exact C8.pass0 (E := C8.E0) pins σ H s e s' I hq
  | ok fl =>
    cases fl with
    | ret w =>
      obtain ⟨z, H', I', rz, q⟩ := I.after hq
      exact hQ w z H' s' I' rz q
    | next => exact False.elim hq
    | brk => exact False.elim hq
    | cont => exact False.elim hq
def rEqIV (K : PySem.W.Frag) (C : Addr) (sp : Sp) : R2 := fun x y H Q => ∃ a dx fs t, x = .ref a ∧ H a = some (.ins C dx fs) ∧ TyX K H y t ∧ PySem.W.notFirst K C t = true ∧ sp [.ref a, y] H (fun v H' => ∃ r, v = .bl r ∧ Q (.bl r) H') C8.E0
theorem op_eqIV (c : Met X.prog X.w X.K X.mg X.base k C "__eq__" sp []) (hr : Room j X.A) (hk : k ≤ j) : OpR X (compareOp .Eq) (rEqIV X.K C sp) := by
  intro pins s σ H x y v u Q I rx ry h
  obtain ⟨a, dx, fs, t, rfl, ha, hty, hnf, hsp⟩ := h
  cases rx
  obtain ⟨mA, J, _⟩ := ins_get I.hok ha
  obtain ⟨od, J, _⟩ := J.look
  obtain ⟨m, hF⟩ := I.fr
  obtain ⟨P, kx, hP, _⟩ := kit_of I ry hty
  obtain ⟨f, hs, hf, hw⟩ := met_runV (Q := PySem.W.CmpBack (EP X pins σ Q)) c (hr.mono hk) rfl I ry hsp (fun v z H' s' I' rz q => by
    obtain ⟨r, rfl, q⟩ := q
    cases rz
    exact ⟨.bl r, H', I', rfl, q⟩)
  exact PySem.W.cmp_K (op := .Eq) (tb := t) hr.units0 hF I.ok.mod.kin J (kx.ty _ _ I.kIn hP) hnf hs hf hw
theorem op_eqDK (K : PySem.W.Frag) (hr : Room j X.A) (h : X.K = K := by rfl) : OpR X (compareOp .Eq) (rEqD K) := by subst h; exact op_eqD hr.units
theorem op_neDK (K : PySem.W.Frag) (hr : Room j X.A) (h : X.K = K := by rfl) : OpR X (compareOp .NotEq) (rNeD K) := by subst h; exact op_neD hr.units
end
def tD (xs : List (List Nat)) : PyData := .tuple (xs.map fun l => .str (S l))
def ttD (xss : List (List (List Nat))) : PyData := .tuple (xss.map tD)
theorem dp_t {K : PySem.W.Frag} {H : Hp} {a : Addr} {xs : List (List Nat)} (h : SqT K H a (txs xs)) : Dp K H (.ref a) (tD xs) := .tup h (dp_strs xs)
theorem eqv_t (xs ys : List (List Nat)) : PyData.eqv (tD xs) (tD ys) = decide (xs = ys) := eqv_strs xs ys
theorem eqv_tts : ∀ xss yss : List (List (List Nat)), PyData.eqvAll (xss.map tD) (yss.map tD) = decide (xss = yss)
  | [], [] => rfl
  | [], _ :: _ => rfl
  | _ :: _, [] => rfl
  | x :: xs, y :: ys => by
    show (PyData.eqv (tD x) (tD y) && PyData.eqvAll (xs.map tD) (ys.map tD)) = _
    rw [eqv_t, eqv_tts xs ys, ← Bool.decide_and]
    exact decide_eq_decide.mpr (by rw [List.cons.injEq])
theorem eqv_tt (xss yss : List (List (List Nat))) : PyData.eqv (ttD xss) (ttD yss) = decide (xss = yss) := eqv_tts xss yss
theorem fit_t {m n : Nat} {xs : List (List Nat)} (hs : Small xs) (hl : ∀ l ∈ xs, l.length ≤ n) (hm : xs.length ≤ m) : Fit 2 (m * (n + 1)) (tD xs) :=
  Fit.tup (k := 0) (n := n) (fun d hd => by obtain ⟨l, hl', rfl⟩ := List.mem_map.mp hd; exact Fit.text (hs l hl') (hl l hl')) (by rw [List.length_map]; exact hm)
theorem fit_tt {m n p : Nat} {xss : List (List (List Nat))} (h : ∀ xs ∈ xss, Small xs ∧ (∀ l ∈ xs, l.length ≤ n) ∧ xs.length ≤ m) (hp : xss.length ≤ p) : Fit 4 (p * (m * (n + 1) + 1)) (ttD xss) :=
  Fit.tup (k := 2) (fun d hd => by obtain ⟨xs, hx, rfl⟩ := List.mem_map.mp hd; obtain ⟨h1, h2, h3⟩ := h xs hx; exact fit_t h1 h2 h3) (by rw [List.length_map]; exact hp)
end LX
set_option maxHeartbeats 4000000
namespace EV
open PySem PySem.HandSPX
open Builtin Builtin.ObjectAttr
section
variable {M : Model} {A : Around} {E : Value → Shared → Prop} {h : Heap} {g : Array GenState} {d : Drawn} {t : Nat} {os : OsState}
variable {nm q : Str} {C N : Addr} {bs bm bmB : List Value} {hdct : Bool} {sn : List Str} {sub : List Value} {ab : Bool} {col : Option Bool} {dd : Option Addr} {k0 k1 k2 k3 k5 : Option Value} {B newId initId : String}
theorem check_new_kw (F : ExcBaseFacts B newId initId bmB) (hB : bm.contains (.type B) = true) {rest : List Value} {kw : List (Str × Value)} {Q : Unit → Shared → Prop}
    (hC : h.get? C = some (excClassObj nm q C N bs bm hdct sn sub ab col dd k0 k1 k2 k3 k5 newId)) (hq : Q () ⟨h, g, d, t, os⟩) : wpAny M A (checkBuiltinCall newId ⟨.ref C :: rest, kw⟩) Q E ⟨h, g, d, t, os⟩ := by
  have hcont : (Value.ref C :: bm).contains (.type B) = true := by rw [List.contains_cons, hB, Bool.or_true]
  have hstar := F.noStar
  simp only [checkBuiltinCall, F.newKind, F.newSplit, F.newRow]
  repeat (first | refine wpAny_loadPart_at hC ?_ | (refine wpAny_isSubtype_exc hC ?_; rw [hcont]) | refine wpAny_staticBase_exc hC ?_ | refine wpAny_madeBy_exc hC ?_ | simp only [bne_self_eq_false, Bool.false_eq_true, if_false] | wp_step)
  exact hq
end
section
variable {prog : Program} {w : World} {A : Around} {E : Value → Shared → Prop} {R : Result → Shared → Prop} {h : Heap} {g : Array GenState} {d : Drawn} {t : Nat} {os : OsState}
variable {nm q : Str} {C N : Addr} {bs bm bmB : List Value} {hdct : Bool} {sn : List Str} {sub : List Value} {ab : Bool} {col : Option Bool} {dd : Option Addr} {k0 k1 k2 k3 k5 : Option Value} {B newId initId : String}
theorem new_kw (F : ExcBaseFacts B newId initId bmB) (hB : bm.contains (.type B) = true) (hA : bm.contains (.type "AttributeError") = false) (hN : bm.contains (.type "NameError") = false) {rest : List Value} {kw : List (Str × Value)}
    (hC : h.get? C = some (excClassObj nm q C N bs bm hdct sn sub ab col dd k0 k1 k2 k3 k5 newId))
    (hq : R (.ok (.ret (.ref (h.objs.size + 1)))) ⟨(h.push { cls := .type "tuple", data := .seq rest.toArray }).push
      { cls := .ref C, data := .fields #[.ref h.objs.size, .none, .none, .none, .bool false, .none] }, g, d, t, os⟩) (hrest : rest.length ≤ sizeLine) :
    codeAny (model prog w) A (.builtin newId ⟨.ref C :: rest, kw⟩) R ⟨h, g, d, t, os⟩ := by
  have hends := F.ends
  have hcB : (Value.ref C :: bm).contains (.type B) = true := by rw [List.contains_cons, hB, Bool.or_true]
  have hcA : (Value.ref C :: bm).contains (.type "AttributeError") = false := by rw [List.contains_cons, hA]; rfl
  have hcN : (Value.ref C :: bm).contains (.type "NameError") = false := by rw [List.contains_cons, hN]; rfl
  refine codeAny_builtinAt F.entry ?_
  unfold Builtin.«BaseException.__new__»
  refine wpAt_bind ?_
  show wpAt _ _ _ (stack >>= _) _ _ _
  refine wpAt_bind (wpAt_stack fun p below => wpAt_of_wpAny ?_)
  wp_walk
  refine wpAt_of_wpAny ?_
  rw [F.owner]
  repeat (first | with_reducible refine wpAny_madeHere_exc F.canon hC ?_ | with_reducible refine wpAny_loadPart_at hC ?_ | (with_reducible refine wpAny_isSubtype_exc hC ?_; first | rw [hcB] | rw [hcA] | rw [hcN]) | wp_step)
  show R _ _
  rw [Heap.size_push]
  exact hq
theorem type_call_kw (F : ExcBaseFacts B newId initId bmB) (hB : bm.contains (.type B) = true) (hA : bm.contains (.type "AttributeError") = false) (hN : bm.contains (.type "NameError") = false) {rest : List Value} {kw : List (Str × Value)} {fI : Addr} {Q : Fin → Shared → Prop}
    (hC : h.get? C = some (excClassObj nm q C N bs bm hdct sn sub ab col dd k0 k1 k2 k3 k5 newId))
    (hi : W.Looks (model prog w) h (typeLookup (.ref C) "__init__") (some (.ref fI))) (hb : ∀ self, W.Looks (model prog w) h (bindSpecial (.ref fI) self) (.ref fI, [self])) (hrest : rest.length ≤ sizeLine)
    (hq : codeAny (model prog w) A (.call (.ref fI) ⟨.ref (h.objs.size + 1) :: rest, kw⟩)
      (fun r s' => match r with | .ok (.ret v) => v = .none ∧ Q (.done (.ret (.ref (h.objs.size + 1)))) s' | .ok _ => False | .error e => E e s')
      ⟨(h.push (W.kdv_tup rest)).push (excO C h.objs.size), g, d, t, os⟩) :
    wpAny (model prog w) A (Builtin.«type.__call__» ⟨.ref C :: rest, kw⟩) Q E ⟨h, g, d, t, os⟩ := by
  repeat (first | with_reducible refine wpAny_loadPart_at hC ?_ | with_reducible refine wpAny_madeBy_exc hC ?_ | wp_step)
  refine codeAny_call_builtin_code (Code.quiet_builtin _ F.quiet) (check_new_kw F hB hC ?_)
  refine new_kw F hB hA hN hC ?_ hrest
  show wpAny _ _ _ _ _ _
  have k : ∀ b o, h.get? b = some o → ((h.push (W.kdv_tup rest)).push (excO C h.objs.size)).get? b = some o := fun b o e => Heap.get?_push_of_some _ (Heap.get?_push_of_some _ e)
  have hC₁ := k _ _ hC
  have hget : ((h.push (W.kdv_tup rest)).push (excO C h.objs.size)).get? (h.objs.size + 1) = some (excO C h.objs.size) := by heap_get
  have hcC : (Value.ref C :: bm).contains (.ref C) = true := by simp
  have i1 := hi.keeps k
  have b1 := (hb (.ref (h.objs.size + 1))).keeps k
  unfold isInstance
  repeat (first | with_reducible refine wpAny_loadPart_at hget ?_ | (with_reducible refine wpAny_isSubtype_exc hC₁ ?_; rw [hcC]) | wp_step)
  show wpAny _ _ (typeLookup (.ref C) _) _ _ _
  refine i1.at ?_
  refine wpAny_holding (wpAny_bind (b1.at ?_))
  refine wpAny_bind (wpAny_call (codeAny_mono hq fun r s' z => ?_))
  rcases r with e | (v | _ | _ | _) <;> first | exact z | exact z.elim | skip
  obtain ⟨rfl, z⟩ := z
  first
    | exact wpAny_pure (wpAny_pure z)
    | (wp_walk; exact z)
theorem call_kw (F : ExcBaseFacts B newId initId bmB) (hB : bm.contains (.type B) = true) (hA : bm.contains (.type "AttributeError") = false) (hN : bm.contains (.type "NameError") = false) {rest : List Value} {kw : List (Str × Value)} {fI : Addr}
    (hC : h.get? C = some (excClassObj nm q C N bs bm hdct sn sub ab col dd k0 k1 k2 k3 k5 newId))
    (hi : W.Looks (model prog w) h (typeLookup (.ref C) "__init__") (some (.ref fI))) (hb : ∀ self, W.Looks (model prog w) h (bindSpecial (.ref fI) self) (.ref fI, [self])) (hrest : rest.length ≤ sizeLine)
    (hq : codeAny (model prog w) (A.under (.builtin "type.__call__" ⟨.ref C :: rest, kw⟩)) (.call (.ref fI) ⟨.ref (h.objs.size + 1) :: rest, kw⟩) (W.InitBack (h.objs.size + 1) R)
      ⟨(h.push (W.kdv_tup rest)).push (excO C h.objs.size), g, d, t, os⟩) :
    codeAny (model prog w) A (.call (.ref C) ⟨rest, kw⟩) R ⟨h, g, d, t, os⟩ := by
  have f1 := tc_lookup
  have f2 := tc_bind (.ref C)
  have hTy : (⟨h, g, d, t, os⟩ : Shared).TypeIs (.ref C) "type" := ⟨_, hC, rfl⟩
  refine codeAny_of_tree ?_
  show wpAny _ _ (callAny (.ref C) _) _ _ _
  repeat (any_goals (first | assumption | with_reducible refine wpAny_loadPart_at hC ?_ | wp_step))
  refine ⟨rfl, ?_⟩
  refine codeAny_call_builtin_at (Code.quiet_builtin _ (by decide +kernel)) entry_typeCall (wpAny_check_type_call_sub hC (type_call_kw F hB hA hN hC hi hb hrest ?_))
  refine codeAny_mono hq fun r s' z => ?_
  rcases r with e | (v | _ | _ | _) <;> exact z
end
section
variable {prog : Program} {w : World} {A : Around} {E : Value → Shared → Prop} {R : Result → Shared → Prop} {hp : Heap} {g : Array GenState} {d : Drawn} {t : Nat} {os : OsState}
theorem exc_osaG {K : W.Frag} {name : Str} {tk : Tok} {v : Value} {x C : Addr} {fv : Array Value} {cd : ClassData}
    (X : K.In hp) (hx : hp.get? x = some { cls := .ref C, data := .fields fv }) (hcd : W.clsIn K C = some cd) (hm : ∀ self, refuseLoop self "__setattr__" cd.mro = pure ()) (ne : cd.mro.isEmpty = false) (hob : cd.mro.contains (.type "object") = true) (hh : cd.hasDict = true) (ha : W.findIn K (.ref C) name = some none)
    (hq : ∀ h' tk' dx, (∀ b o, b ≠ x → hp.get? b = some o → h'.get? b = some o) → hp.objs.size ≤ dx → dx ≠ x → h'.get? x = some { cls := .ref C, dict := some dx, data := .fields fv } →
      h'.Ns1 dx (fun y => if y = name then some v else none) → R (.ok (.ret .none)) ⟨h', g, d, tk', os⟩) :
    codeAny (model prog w) A (.call (.builtin "object.__setattr__") ⟨[.ref x, .str name tk, v], []⟩) R ⟨hp, g, d, t, os⟩ := by
  have I : W.InstAt hp x { cls := .ref C, data := .fields fv } C none := ⟨hx, rfl, rfl, trivial⟩
  have SF := F.store_object
  have hxs : x ≠ hp.objs.size := Nat.ne_of_lt (Heap.lt_size hx)
  have sub : W.Looks (model prog w) hp (isInstance (.ref x) (.type "object")) true := I.type.andThen (W.looks_mroIn X (by unfold W.mroIn; rw [hcd, Option.bind_some, if_neg (by rw [ne]; decide), hob]))
  refine codeAny_call_builtin SF.slot.plain SF.entry (@W.check_slot (model prog w) _ _ ⟨hp, g, d, t, os⟩ "object.__setattr__" "object" "__setattr__" (.ref x) [.str name tk, v] [] _ SF.kind SF.split sub (SF.args (.ref x) (.str name tk) v) ?_)
  have hmr : W.Looks (model prog w) hp (mroOf (.ref C)) cd.mro := (W.looks_clsIn X hcd).andThen .now
  have L3 : W.Looks (model prog w) hp (storeTaker? none) none := .now
  have hcls : W.Looks (model prog w) hp (classData C) cd := W.looks_clsIn X hcd
  rw [W.osa_eq, refuse_eq]
  refine wpAny_bind (wpAny_bind (I.type.at (wpAny_bind (hmr.at ?_))))
  rw [hm]
  refine wpAny_pure (wpAny_bind (I.type.at (wpAny_bind ((W.looks_findIn X ha).at (wpAny_bind (L3.at ?_))))))
  show wpAny _ _ (storeInOwnDict (.ref x) (.ref C) (.str name tk) name v false) _ _ _
  obtain ⟨nm, bs, mro, ns, qn, hd, sn, sb, ab, col, del⟩ := cd
  dsimp only at hh
  subst hh
  unfold storeInOwnDict ownDictForStores
  repeat (first | with_reducible refine store_in_new ?_ ?_ | with_reducible refine wpAny_loadPart_at hx ?_ | with_reducible refine hcls.at ?_ | wp_step)
  · exact ⟨_, #[], _, (Heap.get?_update_ne _ _ _ _ hxs.symm).trans (Heap.get?_push_at rfl rfl), rfl, fun e he => absurd he (by simp), fun _ => rfl⟩
  · intro h' tk' hn' hs
    have hx₁ : (hp.push { cls := .type "dict", data := .dict #[] }).get? x = some { cls := .ref C, data := .fields fv } := Heap.get?_push_of_some _ hx
    refine hq h' tk' hp.objs.size (fun b o hb ho => ?_) (Nat.le_refl _) hxs.symm ?_ hn'
    · exact (hs.2 b (Nat.ne_of_lt (Heap.lt_size ho))).trans ((Heap.get?_update_ne _ _ _ _ hb).trans (Heap.get?_push_of_some _ ho))
    · exact (hs.2 x hxs).trans (Heap.get?_update_self _ hx₁ rfl)
end
end EV
namespace EV
open PySem PySem.W PySem.Calls PyProof.Rows PySem.HandSPX
section
variable {prog : Program} {w : World} {A : Around} {E : Value → Shared → Prop} {s : Shared} {K : Frag} {x D : Addr} {ox : Obj} {od : Option Obj}
theorem findObj_dataD {C : Addr} {name : Str} {a g : Value} (hc : (clsIn K C).isSome = true) (ha : findIn K (.ref C) name = some (some a)) (hg : specialIn K a "__get__" = some (some g)) (ht : takesIn K a = some true) : findObj K C od name = some (.bind g a) := by
  obtain ⟨cd, hc⟩ := Option.isSome_iff_exists.mp hc
  unfold findObj
  rw [hc, Option.bind_some, ha, Option.bind_some]
  cases od <;> simp [hg, ht]
theorem kin_classD {Q : Option Value → Shared → Prop} (hga : findIn K (.ref D) "__getattribute__" = some (some (.builtin "BaseException.__getattribute__"))) (hgt : findIn K (.ref D) "__getattr__" = some none) (hsub : subIn K (.ref D) (.type "BaseException") = some true)
    (hdct : hasDictIn K D = true) (ha : findIn K (.ref D) "__class__" = some (some (.builtin "object.__class__")))
    (hn : specialIn K (.builtin "object.__class__") "__get__" = some (some (.builtin "getset_descriptor.__get__"))) (htk : takesIn K (.builtin "object.__class__") = some true) (hm : mroIn K D (.type "object") = some true)
    (X : K.In s.heap) (I : InstAt s.heap x ox D od) (h : Q (some (.ref D)) { s with toks := s.toks + 1 }) : wpAny (model prog w) A (getAttr? (.ref x) "__class__") Q E s := by
  have hf : findObj K D od "__class__" = some (.bind (.builtin "getset_descriptor.__get__") (.builtin "object.__class__")) := findObj_dataD (by obtain ⟨cd, hc, _⟩ := any_some hdct; rw [hc]; rfl) ha hn htk
  obtain ⟨hp, g, d, t, os⟩ := s
  have L0 := I.type (M := model prog w)
  have L1 := looks_findIn (M := model prog w) X hga
  have L2 := looks_findIn (M := model prog w) X hgt
  have L3 := looks_find (M := model prog w) X I hf
  have sub : Looks (model prog w) hp (isInstance (.ref x) (.type "BaseException")) true := L0.andThen (looks_subIn X hsub)
  have hx0 : (false && onTheHeap (Value.builtin "BaseException.__getattribute__")) = false := rfl
  have hx2 : (Value.builtin "BaseException.__getattribute__" == Value.builtin "object.__getattribute__") = false := by decide +kernel
  have hx1 : (onTheHeap (Value.ref D) && Value.builtin "BaseException.__getattribute__" == Value.builtin "object.__getattribute__") = false := by rw [hx2]; rfl
  unfold getAttr? getAttrBy? getAttrBy
  refine wpAny_bind (wpAny_mkText (wpAny_bind (wpAny_attempt (wpAny_holding (wpAny_bind (L0.at (wpAny_bind (L1.at ?_))))))))
  show wpAny _ _ (if (onTheHeap (Value.ref D) && Value.builtin "BaseException.__getattribute__" == Value.builtin "object.__getattribute__") = true then _ else _) _ _ _
  rw [hx1, if_neg Bool.false_ne_true]
  unfold getAttrByItsOwn hookBefore
  refine wpAny_bind ?_
  rw [if_pos (show onTheHeap (Value.ref D) = true from rfl)]
  refine L2.at ?_
  refine wpAny_bind (wpAny_attempt (wpAny_holding ?_))
  unfold callGetattribute
  rw [hx0, if_neg Bool.false_ne_true]
  unfold boundAndCalled
  rw [PySem.F.excAttr_ValueError.ga.bind (.ref x)]
  refine wpAny_bind (wpAny_pure ?_)
  show wpAny _ _ (call (.builtin "BaseException.__getattribute__") [.ref x, .str "__class__" t]) _ _ _
  refine wpAny_call (codeAny_call_builtin PySem.F.excAttr_ValueError.ga.plain PySem.F.entry_bexc_ga ?_)
  refine @check_slot (model prog w) _ _ ⟨hp, g, d, t + 1, os⟩ "BaseException.__getattribute__" "BaseException" "__getattribute__" (.ref x) [.str "__class__" t] [] _ (by decide +kernel) (by decide +kernel) sub (PySem.F.args_bexc_ga (.ref x) (.str "__class__" t)) ?_
  unfold Builtin.«object.__getattribute__»
  refine wpAny_bind (wpAny_of_eq (a := ((Value.ref x : Value), [Value.str "__class__" t])) (by first | rfl | (simp only [slotArgs]; rfl)) ?_)
  refine wpAny_bind (wpAny_pure (wpAny_bind (L0.at (wpAny_bind (L3.at ?_)))))
  show wpAny _ _ (holding [Value.builtin "object.__class__"] (call (.builtin "getset_descriptor.__get__") [.builtin "object.__class__", .ref x, .ref D]) >>= ret) _ _ _
  refine wpAny_bind (wpAny_holding (wpAny_call (class_get (s := ⟨hp, g, d, t + 1, os⟩) (ox := ox) (od := od) X I hm ?_)))
  refine wpAny_pure ?_
  show wpAny _ _ (handedOut (.ref D)) _ _ _
  rw [handedOut_of (v := .ref D) rfl]
  first
    | exact wpAny_pure (wpAny_pure h)
    | exact wpAny_pure h
    | exact wpAny_pure (wpAny_bind (wpAny_pure (wpAny_pure h)))
theorem kitx_excD (hga : findIn K (.ref D) "__getattribute__" = some (some (.builtin "BaseException.__getattribute__"))) (hgt : findIn K (.ref D) "__getattr__" = some none) (hsub : subIn K (.ref D) (.type "BaseException") = some true) (hdct : hasDictIn K D = true) (ha : findIn K (.ref D) "__class__" = some (some (.builtin "object.__class__")))
    (hn : specialIn K (.builtin "object.__class__") "__get__" = some (some (.builtin "getset_descriptor.__get__"))) (htk : takesIn K (.builtin "object.__class__") = some true) (hm : mroIn K D (.type "object") = some true) :
    KitX K (.ref x) (.ref D) (fun h => InstAt h x ox D od) where
  ty := fun _ _ _ I => I.type
  it := fun _ _ X _ => by
    obtain ⟨cdD, hcD, _⟩ := any_some hdct
    unfold clsIn at hcD
    split at hcD
    · rename_i c' d' cd' sl' ho
      intro A' Q' E' s' k q
      unfold isType loadHead
      exact wpAny_bind (wpAny_loadPart (k _ _ (X _ _ ho)) (wpAny_pure q))
    · cases hcD
  ne := fun h tp dd its n sl X htp => by
    obtain ⟨cdD, hcD, _⟩ := any_some hdct
    refine Bool.eq_false_iff.mpr fun q => ?_
    have e : D = tp := Value.ref.inj (beq_iff_eq.mp q)
    subst e
    unfold clsIn at hcD
    split at hcD
    · rename_i c' d' cd' sl' ho
      have z := (X _ _ ho).symm.trans htp
      cases z
    · cases hcD
  ca := fun X I k => kin_classD hga hgt hsub hdct ha hn htk hm X I k
end
end EV
set_option maxHeartbeats 4000000
namespace LX
open PySem PySem.Spec PyProof.Rows L2 C8 SX
structure XC (K : PySem.W.Frag) (C : Addr) : Prop where
  obj : ∃ (tail bmF : List Value) (B newId initId : String), ExcBaseFacts B newId initId bmF ∧ PySem.W.excInitIn K C tail newId = true ∧ tail.contains (.type B) = true ∧ tail.contains (.type "AttributeError") = false ∧ tail.contains (.type "NameError") = false ∧
    tail.contains (.type "object") = true ∧ ∀ self, PySem.refuseLoop self "__setattr__" tail = pure ()
  hd : PySem.W.hasDictIn K C = true
  sa : PySem.W.findIn K (.ref C) "__setattr__" = some (some (.builtin "object.__setattr__"))
  ga : PySem.W.findIn K (.ref C) "__getattribute__" = some (some (.builtin "BaseException.__getattribute__"))
  gg : PySem.W.findIn K (.ref C) "__getattr__" = some none
  exC : PySem.W.subIn K (.ref C) (.type "BaseException") = some true
  tyC : PySem.W.typeIn K (.ref C) = some (.type "type")
  kC : PySem.W.keepIn K (.ref C) = true
  ha : PySem.W.findIn K (.ref C) "__class__" = some (some (.builtin "object.__class__"))
  hn : PySem.W.specialIn K (.builtin "object.__class__") "__get__" = some (some (.builtin "getset_descriptor.__get__"))
  ht : PySem.W.takesIn K (.builtin "object.__class__") = some true
  hm : PySem.W.mroIn K C (.type "object") = some true
def veT : List Value := [.type "ValueError", .type "Exception", .type "BaseException", .type "object"]
def keT : List Value := [.type "KeyError", .type "LookupError", .type "Exception", .type "BaseException", .type "object"]
theorem veT_pass (self : Value) : PySem.refuseLoop self "__setattr__" veT = pure () := HandSPX.refsVE_pass self veT (by decide +kernel)
theorem keT_pass (self : Value) : PySem.refuseLoop self "__setattr__" keT = pure () := by kernel_rfl
theorem XC.ve {K : PySem.W.Frag} {C : Addr} (q : PySem.W.excInitIn K C veT "ValueError.__new__" = true) (hd : PySem.W.hasDictIn K C = true) (sa : PySem.W.findIn K (.ref C) "__setattr__" = some (some (.builtin "object.__setattr__")))
    (ga : PySem.W.findIn K (.ref C) "__getattribute__" = some (some (.builtin "BaseException.__getattribute__"))) (gg : PySem.W.findIn K (.ref C) "__getattr__" = some none) (exC : PySem.W.subIn K (.ref C) (.type "BaseException") = some true) (tyC : PySem.W.typeIn K (.ref C) = some (.type "type"))
    (kC : PySem.W.keepIn K (.ref C) = true) (ha : PySem.W.findIn K (.ref C) "__class__" = some (some (.builtin "object.__class__"))) (hn : PySem.W.specialIn K (.builtin "object.__class__") "__get__" = some (some (.builtin "getset_descriptor.__get__"))) (ht : PySem.W.takesIn K (.builtin "object.__class__") = some true)
    (hm : PySem.W.mroIn K C (.type "object") = some true) : XC K C :=
  ⟨⟨veT, _, _, _, _, PySem.F.excBase_ValueError, q, by decide +kernel, by decide +kernel, by decide +kernel, by decide +kernel, veT_pass⟩, hd, sa, ga, gg, exC, tyC, kC, ha, hn, ht, hm⟩
theorem XC.ke {K : PySem.W.Frag} {C : Addr} (q : PySem.W.excInitIn K C keT "LookupError.__new__" = true) (hd : PySem.W.hasDictIn K C = true) (sa : PySem.W.findIn K (.ref C) "__setattr__" = some (some (.builtin "object.__setattr__")))
    (ga : PySem.W.findIn K (.ref C) "__getattribute__" = some (some (.builtin "BaseException.__getattribute__"))) (gg : PySem.W.findIn K (.ref C) "__getattr__" = some none) (exC : PySem.W.subIn K (.ref C) (.type "BaseException") = some true) (tyC : PySem.W.typeIn K (.ref C) = some (.type "type"))
    (kC : PySem.W.keepIn K (.ref C) = true) (ha : PySem.W.findIn K (.ref C) "__class__" = some (some (.builtin "object.__class__"))) (hn : PySem.W.specialIn K (.builtin "object.__class__") "__get__" = some (some (.builtin "getset_descriptor.__get__"))) (ht : PySem.W.takesIn K (.builtin "object.__class__") = some true)
    (hm : PySem.W.mroIn K C (.type "object") = some true) : XC K C :=
  ⟨⟨keT, _, _, _, _, PySem.F.excBase_LookupError, q, by decide +kernel, by decide +kernel, by decide +kernel, by decide +kernel, keT_pass⟩, hd, sa, ga, gg, exC, tyC, kC, ha, hn, ht, hm⟩
theorem XC.data {K : PySem.W.Frag} {C : Addr} (T : XC K C) : ∃ (nm q : Str) (N : Addr) (bs bm : List Value) (sn : List Str) (sub : List Value) (ab : Bool) (col : Option Bool) (dd : Option Addr) (k0 k1 k2 k3 k5 : Option Value) (B newId initId : String) (bmF : List Value),
    ExcBaseFacts B newId initId bmF ∧ K.lookup C = some (excClassObj nm q C N bs bm true sn sub ab col dd k0 k1 k2 k3 k5 newId) ∧ bm.contains (.type B) = true ∧ bm.contains (.type "AttributeError") = false ∧ bm.contains (.type "NameError") = false ∧
    (∀ self, PySem.refuseLoop self "__setattr__" (.ref C :: bm) = pure ()) ∧ (Value.ref C :: bm).contains (.type "object") = true := by
  obtain ⟨tail, bmF, B, newId, initId, F, q, hB, hA, hN, hO, hp⟩ := T.obj
  have hdct := T.hd
  unfold PySem.W.excInitIn at q
  unfold PySem.W.hasDictIn PySem.W.clsIn at hdct
  split at q
  · rename_i dd cd sl ho
    rw [ho] at hdct
    split at q
    · rename_i C' bm k0 k1 k2 k3 n k5 hm hs
      simp only [Bool.and_eq_true, beq_iff_eq, Bool.not_eq_true'] at q
      obtain ⟨⟨⟨rfl, rfl⟩, hdel⟩, ht⟩ := q
      obtain ⟨nm, bs, mro, ns, qn, hd, sn, sub, ab, col, del⟩ := cd
      have hdct : hd = true := hdct
      dsimp only at hm hdel
      subst hm hdel hdct
      have hsl : sl = #[k0, k1, k2, k3, some (.builtin n), k5] := by
        obtain ⟨l⟩ := sl
        simp only at hs
        rw [hs]
      subst hsl
      have hT : ∀ X : String, bm.contains (.type X) = tail.contains (.type X) := fun X => PySem.W.excTail_contains X _ ht
      refine ⟨nm, qn, ns, bs, bm, sn, sub, ab, col, dd, k0, k1, k2, k3, k5, B, n, initId, bmF, F, ho, (hT _).trans hB, (hT _).trans hA, (hT _).trans hN, fun self => ?_, ?_⟩
      · exact PySem.W.excTail_pass self (hp self) _ ht
      · rw [List.contains_cons, hT, hO, Bool.or_true]
    · cases q
  · cases q
section
variable {X : Cx} {pins : List (Addr × Obj)} {σ : L2.St} {H : Hp} {s : Shared} {a C dx : Addr} {f : Str} {y : V} {u : Value} {Q : Unit → Shared → Prop} {E : Value → Shared → Prop} {A : Around}
theorem ost_newG (T : XC X.K C) (I : Inv X pins σ H s) (e : H a = some (exo a C none)) (hno : PySem.W.findIn X.K (.ref C) f = some none) (ry : RelV y u)
    (h : ∀ dx s', H dx = none → dx ≠ a → Inv X pins σ (upd (upd H dx (exd dx [(f, y)])) a (exo a C (some dx))) s' → Q () s') : wpAny (model X.prog X.w) A (setAttr (.ref a) f u) Q E s := by
  obtain ⟨nm, q, N, bs, bm, sn, sub, ab, col, dd, k0, k1, k2, k3, k5, B, newId, initId, bmF, F, hC, hB, hA, hN, hp0, hob⟩ := T.data
  have hcl : PySem.W.clsIn X.K C = some { name := nm, bases := bs, mro := .ref C :: bm, ns := N, qualname := q, hasDict := true, slotNames := sn, subclasses := sub, abstract := ab, collection := col, hasDel := false } := by unfold PySem.W.clsIn; rw [hC] <;> rfl
  obtain ⟨t1, ho⟩ := exo_at I.hok e
  obtain ⟨hp, g, d, t, os⟩ := s
  refine PySem.W.set_plain I.kIn (ox := { cls := .ref C, dict := none, data := .fields #[.ref t1, .none, .none, .none, .bool false, .none] }) (od := none) ⟨ho, rfl, rfl, trivial⟩ T.sa ?_
  refine EV.exc_osaG I.kIn ho hcl hp0 rfl hob rfl hno (fun h' tk' dx k dn dne hx hn => ?_)
  have hnd : H dx = none := I.hok.fresh dn
  have nd : ∀ {b : Addr} {o : Obj}, hp.get? b = some o → b ≠ dx := fun {b o} q => Nat.ne_of_lt (Nat.lt_of_lt_of_le (Heap.lt_size q) dn)
  have na : ∀ {b : Addr}, H b = none → b ≠ a := fun {b} n z => by
    rw [z, e] at n
    cases n
  have Un1 : Un X.fs [] H (upd (upd H dx (exd dx [(f, y)])) a (exo a C (some dx))) hp h' := {
    keep := fun b o q n _ _ => k b o (na n) q
    slot := fun b o q n _ _ => ⟨o.slots, k b o (na n) q⟩
    free := fun b o q n _ => by rw [upd_ne (na n), upd_ne (nd q)]; exact n
    there := fun b o q _ => by
      by_cases hb : b = a
      · exact ⟨_, by rw [hb]; exact hx⟩
      · exact ⟨o, k b o hb q⟩
    tups := fun b xs q => by rw [upd_ne (at_ne e q exo_tup), upd_ne (ne_of_none q hnd)]; exact q
    frzs := fun b o v q => by rw [upd_ne (at_ne e q exo_frz), upd_ne (ne_of_none q hnd)]; exact q
    tbls := fun b ps q => ⟨#[], by rw [upd_ne (at_ne e q exo_tbl), upd_ne (ne_of_none q hnd), q]; simp⟩ }
  refine h dx _ hnd dne (I.un (t' := tk') Un1 fun b o q => ?_)
  by_cases hb : b = a
  · subst hb
    rw [upd_same] at q
    cases q
    exact exo_ok hx
  · rw [upd_ne hb] at q
    by_cases hd : b = dx
    · subst hd
      rw [upd_same] at q
      cases q
      exact exd_ok hn (relO_put (fs := []) ry fun g => True.intro)
    · rw [upd_ne hd] at q
      exact (I.hok b o q).stay (fun c v hc z => k c v (by
          rcases hc with hc | hc
          · rw [hc]
            exact hb
          · exact at_ne e hc exo_own) z)
        (fun c hc => by rw [upd_ne (at_ne e hc exo_own), upd_ne (ne_of_none hc hnd)]; exact hc) (fun c xs hc => by rw [upd_ne (at_ne e hc exo_tup), upd_ne (ne_of_none hc hnd)]; exact hc)
end
def tOstG (K : PySem.W.Frag) (f : Str) (to te : TE) : TS := fun D σ H => te σ H fun y H1 => to σ H1 fun x H2 => ∃ a C : Addr, x = .ref a ∧ XC K C ∧ PySem.W.findIn K (.ref C) f = some none ∧
  H2 a = some (exo a C none) ∧ ∀ dx, H2 dx = none → dx ≠ a → D.nx σ (upd (upd H2 dx (exd dx [(f, y)])) a (exo a C (some dx)))
section
variable {X : Cx} {o e : Expr} {es : List Expr} {to te : TE} {ta : TA} {f : Str} {p p' p1 p2 pos : Pos}
theorem ps_ostG (ho : PE X o to) (he : PE X e te) (hs : swapsWith e (some (.Attribute o f p')) pos.line X.env = pure false := by rfl) : PS X (.Assign [.Attribute o f p'] e pos) (tOstG X.K f to te) := by
  refine ⟨fun pins s σ H D I h => ?_⟩
  refine plainObj_wpAny_Assign_Attribute (thn (he.run pins s σ H _ I h) fun v s1 ⟨y, H1, I1, r1, q1⟩ => thn (ho.run pins s1 σ H1 _ I1 q1) fun u s2 ⟨x, H2, I2, r2, a, C, ex, T, hno, ea, q⟩ => ?_) hs
  subst ex
  obtain rfl : u = Value.ref a := r2
  exact ost_newG T I2 ea hno r1 fun dx s' n ne J => ⟨σ, _, J, q dx n ne⟩
theorem pmk_xc {CX : CXT} {x : Str} {C fI : Addr} {k : Nat} {fd : FuncData} {ps : List Str} {sp : Sp} {ds : List Value} {dvs : List V} (T : XC X.K C) (iC : PySem.W.findIn X.K (.ref C) "__init__" = some (some (.ref fI))) (tI : PySem.W.typeIn X.K (.ref fI) = some (.type "function"))
    (F1 : FnOk X.prog X.w X.K X.mg X.base CX k fI fd ps sp) (hr : Room (k + 1) X.A) (hb : Binds X.K fd ps ds) (hd : Vals dvs ds) (hx : Passes CX X (fun _ _ _ => False)) (hg : Gl X x) (hm : X.mg x = some (.ref C)) (ha : PA X (e :: es) ta)
    (hdb : (x == ("__debug__" : Str)) = false := by decide) (he : starEach (e :: es) X.env = (false, eval e X.env) :: starEach es X.env := by rfl) (hpl : (backTo pos (starEach es X.env)).any (·.1) = false := by rfl) :
    PMk X (.Call (.Name x p) (e :: es) [] pos) (tMkO C sp dvs ta) := by
  intro pins s σ H Q I h
  obtain ⟨nm, q, N, bs, bm, sn, sub, ab, col, dd, k0, k1, k2, k3, k5, B, newId, initId, bmF, F, hC, hB, hA, hN, hp0, hob⟩ := T.data
  refine wpAny_Call_Name_kw (ld_glob I hg hm ?_ hdb)
  refine PySem.W.callWith_K (h₀ := X.base) I.ok.mod.kin T.kC (thn (ha.run pos pins s σ H _ I h) fun us s1 ⟨vs, H1, I1, r1, hz, q1⟩ => ⟨I1.kIn, ?_⟩) he hpl
  show wpAny _ _ (call (.ref C) us) _ _ _
  obtain ⟨hp, g, dr, tk, os⟩ := s1
  have hsz : hp.objs.size ≤ hp.objs.size + 1 := Nat.le_succ _
  have hn : H1 (hp.objs.size + 1) = none := I1.hok.fresh hsz
  have hq := q1 (hp.objs.size + 1) hn
  have kk : ∀ b o, hp.get? b = some o → ((hp.push (PySem.W.kdv_tup us)).push (PySem.HandSPX.excO C hp.objs.size)).get? b = some o := fun b o e => Heap.get?_push_of_some _ (Heap.get?_push_of_some _ e)
  have hget : ((hp.push (PySem.W.kdv_tup us)).push (PySem.HandSPX.excO C hp.objs.size)).get? (hp.objs.size + 1) = some (PySem.HandSPX.excO C hp.objs.size) := by heap_get
  have I2 : Inv X pins σ (upd H1 (hp.objs.size + 1) (exo (hp.objs.size + 1) C none)) ⟨(hp.push (PySem.W.kdv_tup us)).push (PySem.HandSPX.excO C hp.objs.size), g, dr, tk, os⟩ :=
    I1.laid (t' := tk) (a := hp.objs.size + 1) (o := exo (hp.objs.size + 1) C none) (h' := (hp.push (PySem.W.kdv_tup us)).push (PySem.HandSPX.excO C hp.objs.size)) kk hsz (exo_ok hget)
  have r2 : Vals (V.ref (hp.objs.size + 1) :: (vs ++ dvs)) (Value.ref (hp.objs.size + 1) :: (us ++ ds)) := .cons rfl (r1.append hd)
  have hl : (Value.ref (hp.objs.size + 1) :: us ++ ds).length = ps.length := by
    have e := r2.length
    rw [F1.len _ _ _ _ hq] at e
    exact e.symm
  have hus : us.length ≤ sizeLine := by
    rw [← Paired.length r1, sizeLine_eq]
    omega
  refine wpAny_call (EV.call_kw (kw := []) F hB hA hN (I1.kIn _ _ hC) (PySem.W.looks_findIn I1.kIn iC) (fun self => PySem.W.bind_fn I1.kIn self tI) hus
    (codeAny_mono (F1.run _ X.stack _ _ ⟨Value.ref (hp.objs.size + 1) :: us, []⟩ (Value.ref (hp.objs.size + 1) :: (us ++ ds)) _ _ (fun _ _ _ => False) (hr.make C us []) (I2.env0.make C us []) (hb _ (Value.ref (hp.objs.size + 1) :: us) I2.kIn hl) r2 hq) fun r s' hq' => ?_))
  cases r with
  | error er => exact hx pins σ _ _ er s' I2 hq'
  | ok fl =>
    cases fl with
    | ret u =>
      obtain ⟨v, H2, os2, bare2, un2, hok2, rv, ev, d, fs, ea, ed, hd1, q2⟩ := hq'
      subst ev
      obtain ⟨h2, g2, d2, t2, os'⟩ := s'
      exact ⟨rv, mk_end (raises_own T.exC T.tyC) I1 hsz kk un2 hok2 os2 bare2 ea ed hd1 q2⟩
    | next => exact False.elim hq'
    | brk => exact False.elim hq'
    | cont => exact False.elim hq'
theorem pmk_own0 {C : Addr} {bmB : List Value} {B newId initId : String} {x : Str} {p pos : Pos} (F : ExcBaseFacts B newId initId bmB) (q : PySem.W.excIn X.K C bmB newId = true) (gC : X.mg x = some (.ref C)) (kC : PySem.W.keepIn X.K (.ref C) = true) (r : Raises X (.ref C)) (hg : Gl X x)
    (hdb : (x == ("__debug__" : Str)) = false := by decide) : PMk X (.Call (.Name x p) [] [] pos) (fun σ H Q => Q (.ref C) none H) := by
  intro pins s σ H Q I h
  refine wpAny_Call_Name_kw (ld_glob I hg gC ?_ hdb)
  refine PySem.W.callWith_K0 I.kIn kC ?_
  show wpAny _ _ (call (.ref C) []) _ _ _
  obtain ⟨bm, N, nm, qn, bs, hdct, sn, sub, ab, col, dd, k0, k1, k2, k3, k5, mN, hC, hN, hni, T⟩ := exc_obj I.kIn q
  refine wpAny_call_exc_subT F T hC hN hni (fun h' e hm => ?_) (by show 0 ≤ sizeLine; exact Nat.zero_le _)
  exact mk_of I hm r h (I.hok.gone hm.new)
end
def rIsX (K : PySem.W.Frag) (a : Addr) (cls : Value) (d : Option Addr) : List V → Hp → VK → Prop := fun xs H Q => ∃ (D : Addr) (c : V) (cv : Value) (b : Bool), cls = .ref D ∧ ExcC K D ∧ xs = [.ref a, c] ∧ (∀ u, RelV c u → u = cv) ∧ PySem.W.kitOne K (.ref D) cv = some b ∧
  (d = none ∨ ∃ dd fs, d = some dd ∧ H dd = some (.xd fs)) ∧ Q (.bl b) H
theorem call_isX {X : Cx} {a : Addr} {cls : Value} {d : Option Addr} {oe : Obj} {pn : List (Addr × Obj)} (hz : Zc cls d oe) (hf : ∃ vs, oe.data = .fields vs) : CallR (X.suite a ((a, oe) :: pn)) (.builtin "isinstance") (rIsX X.K a cls d) := by
  intro pins s σ H xs us Q I r h
  obtain ⟨D, c, cv, b, ecls, C, rfl, hcv, e, hd, q⟩ := h
  subst ecls
  cases r with
  | cons rx rr =>
    cases rr with
    | cons rt rr =>
      cases rr
      cases rx
      have ec := hcv _ rt
      subst ec
      obtain ⟨hget, _⟩ := I.pin (a, oe) (List.mem_append.mpr (.inl List.mem_cons_self))
      obtain ⟨vs, hv⟩ := hf
      have J : ∃ od : Option Obj, PySem.W.InstAt s.heap a oe D od := by
        obtain ⟨oc, od, oda, osl⟩ := oe
        obtain ⟨h1, h2⟩ := hz
        dsimp only at h1 h2 hv
        subst h1 h2 hv
        rcases hd with rfl | ⟨dd, fs, rfl, hdd⟩
        · exact ⟨none, hget, rfl, rfl, trivial⟩
        · have hx : ObjOk X.prog X.w H s.heap dd (.xd fs) := I.hok dd _ hdd
          obtain ⟨mA, hns, _⟩ := hx
          obtain ⟨o, _, _, ho, _⟩ := hns
          exact ⟨some o, hget, rfl, rfl, ho⟩
      obtain ⟨od, J⟩ := J
      exact PySem.W.kia_one (EV.kitx_excD (od := od) C.hg C.hk C.hs C.hd C.ha C.hn C.ht C.hm) I.kIn J e (fun z => nomatch z) fun tk => ⟨.bl b, H, I.kept (t' := tk) fun _ _ z => z, rfl, q⟩
theorem XC.exc {K : PySem.W.Frag} {C : Addr} (T : XC K C) : ExcC K C := ⟨T.ga, T.gg, T.exC, T.hd, T.ha, T.hn, T.ht, T.hm⟩
theorem XC.xf {K : PySem.W.Frag} {C : Addr} (T : XC K C) : XfC K C := ⟨T.ga, T.gg, T.exC, T.hd⟩
theorem XC.raises {X : Cx} {C : Addr} (T : XC X.K C) : Raises X (.ref C) := raises_own T.exC T.tyC
theorem XC.exm {K : PySem.W.Frag} {C : Addr} {cls : Value} {b : Bool} (T : XC K C) (h : PySem.W.subIn K cls (.ref C) = some b) : PySem.W.exmOne K cls (.ref C) = some b := PySem.W.exm_ref T.exC T.hd T.tyC h
end LX
set_option maxHeartbeats 4000000
namespace LX
open PySem PySem.Spec PyProof.Rows L2 C8 SX
section
variable {P : Program} {w : World} {K : PySem.W.Frag} {mg : Str → Option Value} {base : Heap}
theorem fnX {x qual : Str} {st : Stmt} {f : Addr} {fd : FuncData} {N ps : List Str} {k : Nat} {sp : Sp} (F : C8.Fun K x qual st f fd) (S : FnScope N ps (C8.fnScope st)) (len : ∀ vs H Q E, sp vs H Q E → vs.length = ps.length)
    (hbody : ∀ (cdv : Value) (A : Around) (outer : List Env) (s : Shared) (H : Hp) (vs : List V) (Q : VK) (E : XK), Room k (A.deeper (envOfC qual (C8.fnScope st) s.heap.objs.size f cdv)) → sp vs H Q E →
      ∃ t, PSs (cxOf (L2.CX P w) P w K mg base N qual (C8.fnScope st) f cdv A outer s H E) (C8.fnBody st) t ∧ t { nx := fun _ H' => Q .non H', rt := Q } (L2.start N vs) H) : FnOk P w K mg base (L2.CX P w) (k + 1) f fd ps sp := by
  obtain ⟨oc, od, dV, kV, doc, pm, an, cdv, ct, osl, rfl, lk, hcd⟩ := F.ex
  exact fn_of lk hcd S len fun A outer s H vs Q E hr hsp => hbody cdv A outer s H vs Q E hr hsp
structure CalX (P : Program) (w : World) (K : PySem.W.Frag) (mg : Str → Option Value) (base : Heap) (k : Nat) (x : Str) (sp : Sp) : Prop where
  ex : ∃ (f : Addr) (fd : FuncData) (ps : List Str), FnOk P w K mg base (L2.CX P w) k f fd ps sp ∧ mg x = some (.ref f) ∧ PySem.W.keepIn K (.ref f) = true ∧ Binds K fd ps []
structure MetX (P : Program) (w : World) (K : PySem.W.Frag) (mg : Str → Option Value) (base : Heap) (k : Nat) (C : Addr) (m : Str) (sp : Sp) : Prop where
  ex : ∃ (f : Addr) (fd : FuncData) (ps : List Str), Cls K C ∧ Meth K C m f ∧ FnOk P w K mg base (L2.CX P w) k f fd ps sp ∧ Binds K fd ps []
structure MakX (P : Program) (w : World) (K : PySem.W.Frag) (mg : Str → Option Value) (base : Heap) (k : Nat) (x : Str) (C : Addr) (sp : Sp) : Prop where
  ex : ∃ (f : Addr) (fd : FuncData) (ps : List Str), Mk K C f ∧ FnOk P w K mg base (L2.CX P w) k f fd ps sp ∧ mg x = some (.ref C) ∧ Binds K fd ps []
structure RaiX (P : Program) (w : World) (K : PySem.W.Frag) (mg : Str → Option Value) (base : Heap) (k : Nat) (x : Str) (C : Addr) (sp : Sp) : Prop where
  ex : ∃ (f : Addr) (fd : FuncData) (ps : List Str), XC K C ∧ PySem.W.findIn K (.ref C) "__init__" = some (some (.ref f)) ∧ PySem.W.typeIn K (.ref f) = some (.type "function") ∧ FnOk P w K mg base C8.CX0 k f fd ps sp ∧ mg x = some (.ref C) ∧ Binds K fd ps []
theorem calX {x : Str} {st : Stmt} {f : Addr} {fd : FuncData} {N ps : List Str} {k : Nat} {sp : Sp} (F : Def K mg x st f fd) (b : Binds K fd ps []) (S : FnScope N ps (C8.fnScope st)) (len : ∀ vs H Q E, sp vs H Q E → vs.length = ps.length)
    (hbody : ∀ (cdv : Value) (A : Around) (outer : List Env) (s : Shared) (H : Hp) (vs : List V) (Q : VK) (E : XK), Room k (A.deeper (envOfC x (C8.fnScope st) s.heap.objs.size f cdv)) → sp vs H Q E →
      ∃ t, PSs (cxOf (L2.CX P w) P w K mg base N x (C8.fnScope st) f cdv A outer s H E) (C8.fnBody st) t ∧ t { nx := fun _ H' => Q .non H', rt := Q } (L2.start N vs) H) : CalX P w K mg base (k + 1) x sp :=
  ⟨f, fd, ps, fnX F.fn S len hbody, F.mgf, F.kp, b⟩
theorem metX {m qual : Str} {C : Addr} {st : Stmt} {f : Addr} {fd : FuncData} {N ps : List Str} {k : Nat} {sp : Sp} (c : Cls K C) (me : Meth K C m f) (F : C8.Fun K m qual st f fd) (b : Binds K fd ps []) (S : FnScope N ps (C8.fnScope st)) (len : ∀ vs H Q E, sp vs H Q E → vs.length = ps.length)
    (hbody : ∀ (cdv : Value) (A : Around) (outer : List Env) (s : Shared) (H : Hp) (vs : List V) (Q : VK) (E : XK), Room k (A.deeper (envOfC qual (C8.fnScope st) s.heap.objs.size f cdv)) → sp vs H Q E →
      ∃ t, PSs (cxOf (L2.CX P w) P w K mg base N qual (C8.fnScope st) f cdv A outer s H E) (C8.fnBody st) t ∧ t { nx := fun _ H' => Q .non H', rt := Q } (L2.start N vs) H) : MetX P w K mg base (k + 1) C m sp :=
  ⟨f, fd, ps, c, me, fnX F S len hbody, b⟩
theorem makX {x qual : Str} {C : Addr} {st : Stmt} {f : Addr} {fd : FuncData} {N ps : List Str} {k : Nat} {sp : Sp} (M : Mk K C f) (hm : mg x = some (.ref C)) (F : C8.Fun K "__init__" qual st f fd) (b : Binds K fd ps []) (S : FnScope N ps (C8.fnScope st)) (len : ∀ vs H Q E, sp vs H Q E → vs.length = ps.length)
    (hbody : ∀ (cdv : Value) (A : Around) (outer : List Env) (s : Shared) (H : Hp) (vs : List V) (Q : VK) (E : XK), Room k (A.deeper (envOfC qual (C8.fnScope st) s.heap.objs.size f cdv)) → sp vs H Q E →
      ∃ t, PSs (cxOf (L2.CX P w) P w K mg base N qual (C8.fnScope st) f cdv A outer s H E) (C8.fnBody st) t ∧ t { nx := fun _ H' => Q .non H', rt := Q } (L2.start N vs) H) : MakX P w K mg base (k + 1) x C sp :=
  ⟨f, fd, ps, M, fnX F S len hbody, hm, b⟩
theorem raiX {x qual : Str} {C : Addr} {st : Stmt} {f : Addr} {fd : FuncData} {N ps : List Str} {k : Nat} {sp : Sp} (T : XC K C) (iC : PySem.W.findIn K (.ref C) "__init__" = some (some (.ref f))) (tI : PySem.W.typeIn K (.ref f) = some (.type "function")) (hm : mg x = some (.ref C)) (F : C8.Fun K "__init__" qual st f fd) (b : Binds K fd ps []) (S : FnScope N ps (C8.fnScope st)) (len : ∀ vs H Q E, sp vs H Q E → vs.length = ps.length)
    (hbody : ∀ (cdv : Value) (A : Around) (outer : List Env) (s : Shared) (H : Hp) (vs : List V) (Q : VK) (E : XK), Room k (A.deeper (envOfC qual (C8.fnScope st) s.heap.objs.size f cdv)) → sp vs H Q E →
      ∃ t, PSs (cxOf C8.CX0 P w K mg base N qual (C8.fnScope st) f cdv A outer s H E).nox (C8.fnBody st) t ∧ t { nx := fun _ H' => Q .non H', rt := Q } (L2.start N vs) H) : RaiX P w K mg base (k + 1) x C sp :=
  ⟨f, fd, ps, T, iC, tI, fn0 F S len hbody, hm, b⟩
end
def tMethS (C : Addr) (m : Str) (sp : Sp) (E : L2.St → XK) (ta : TE) (t : TA) : TE := fun σ H Q => ta σ H fun x H1 => ∃ a dx fs, x = .ref a ∧ H1 a = some (.ins C dx fs) ∧ fs.lookup m = none ∧ t σ H1 fun vs H2 => sp (x :: vs) H2 Q (E σ)
def tMakeS (C : Addr) (sp : Sp) (E : L2.St → XK) (t : TA) : TE := fun σ H Q => t σ H fun vs H1 => ∀ x dx, H1 x = none → H1 dx = none → dx ≠ x → sp (.ref x :: vs) (upd (upd H1 dx (.own x)) x (.ins C dx [])) (fun v H2 => v = .non ∧ Q (.ref x) H2) (E σ)
section
variable {X : Cx} {k j : Nat} {f C : Addr} {sp : Sp} {W : WX} {x m : Str} {p pos apos : Pos} {e o : Expr} {es : List Expr} {ta : TE} {t : TA}
theorem pe_cX (c : CalX X.prog X.w X.K X.mg X.base k x sp) (tk : Takes X W) (hr : Room j X.A) (hk : k ≤ j) (hg : Gl X x) (ha : PA X (e :: es) t) (hdb : (x == ("__debug__" : Str)) = false := by decide)
    (he : starEach (e :: es) X.env = (false, eval e X.env) :: starEach es X.env := by rfl) (hpl : (backTo pos (starEach es X.env)).any (·.1) = false := by rfl) : PE X (.Call (.Name x p) (e :: es) [] pos) (tCallS sp (WE W) t) := by
  obtain ⟨f, fd, ps, F, hm, kp, b⟩ := c.ex
  exact pe_callS F (hr.mono hk) hg hm kp b (fun σ => passAt tk σ) ha hdb he hpl
theorem pe_mtX {pl : Sem Bool} (c : MetX X.prog X.w X.K X.mg X.base k C m sp) (tk : Takes X W) (hr : Room j X.A) (hk : k ≤ j) (he : PE X o ta) (ha : PA X (e :: es) t)
    (hst : starEach (e :: es) X.env = (false, eval e X.env) :: starEach es X.env := by rfl) (hpl : (backTo pos (starEach es X.env)).any (·.1) = false := by rfl)
    (ht : eval (.Call (.Attribute o m apos) (e :: es) [] pos) X.env = (do
      let ov ← eval o X.env
      standAt apos.atName
      let (f, first) ← holding [ov] (getMethod ov m pl)
      callWith pos f first (backTo pos (starEach (e :: es) X.env)) (backToKw pos (keywordEach [] X.env))) := by rfl) :
    PE X (.Call (.Attribute o m apos) (e :: es) [] pos) (tMethS C m sp (WE W) ta t) := by
  obtain ⟨f, fd, ps, cl, hm, F, hb⟩ := c.ex
  refine ⟨fun pins s σ H Q I h => ?_⟩
  refine PySem.W.methodCall_KW (pl := pl) (thn (he.run pins s σ H _ I h) fun u s1 ⟨x, H1, I1, rx, a, dx, fs, ex, ea, l, q⟩ => ?_) ht
  subst ex
  obtain rfl : u = Value.ref a := rx
  refine getmeth_ok I1 ea cl hm l ?_
  refine PySem.W.callWith_K (first := [.ref a]) (h₀ := X.base) I.ok.mod.kin hm.kp (thn (ha.run pos pins s1 σ H1 _ I1 q) fun us s2 ⟨vs, H2, I2, r, q2⟩ => ⟨I2.kIn, ?_⟩) hst hpl
  exact run_fnS (us := .ref a :: us) (vs := .ref a :: vs) F (hr.mono hk) hb (passAt tk σ) I2 (.cons rfl r) q2
theorem pe_mkX (c : MakX X.prog X.w X.K X.mg X.base k x C sp) (tk : Takes X W) (hr : Room j X.A) (hk : k + 1 ≤ j) (hg : Gl X x) (ha : PA X (e :: es) t) (hdb : (x == ("__debug__" : Str)) = false := by decide)
    (he : starEach (e :: es) X.env = (false, eval e X.env) :: starEach es X.env := by rfl) (hpl : (backTo pos (starEach es X.env)).any (·.1) = false := by rfl) : PE X (.Call (.Name x p) (e :: es) [] pos) (tMakeS C sp (WE W) t) := by
  obtain ⟨f, fd, ps, M, F, hm, hb⟩ := c.ex
  refine ⟨fun pins s σ H Q I h => ?_⟩
  refine wpAny_Call_Name_kw (ld_glob I hg hm ?_ hdb)
  refine PySem.W.callWith_K (h₀ := X.base) I.ok.mod.kin M.kp (thn (ha.run pos pins s σ H _ I h) fun us s1 ⟨vs, H1, I1, r, q⟩ => ⟨I1.kIn, ?_⟩) he hpl
  have hq := q (s1.heap.objs.size + 1) s1.heap.objs.size (I1.hok.fresh (Nat.le_succ _)) (I1.hok.fresh (Nat.le_refl _)) (Nat.ne_of_lt (Nat.lt_succ_self _))
  have I2 := Inv.made (C := C) I1
  have r2 : Vals (V.ref (s1.heap.objs.size + 1) :: vs) (Value.ref (s1.heap.objs.size + 1) :: us) := .cons rfl r
  have hl : (Value.ref (s1.heap.objs.size + 1) :: us ++ []).length = ps.length := by
    have e := r2.length
    rw [F.len _ _ _ _ hq] at e
    rw [List.append_nil]
    exact e.symm
  have hb2 := hb _ (Value.ref (s1.heap.objs.size + 1) :: us) I2.kIn hl
  rw [List.append_nil] at hb2
  refine wpAny_call (make_map (f := f) I1.kIn M.makes M.init (beq_iff_eq.mp M.fn) (codeAny_mono (F.run _ X.stack _ _ ⟨Value.ref (s1.heap.objs.size + 1) :: us, []⟩ (Value.ref (s1.heap.objs.size + 1) :: us) _ _ (WE W σ) ((hr.mono hk).make C us [])
    (I2.env0.make C us []) hb2 r2 hq) fun r s' hq' => ?_))
  cases r with
  | error e => exact passAt tk σ pins _ _ e s' I2 hq'
  | ok fl =>
    cases fl with
    | ret u =>
      obtain ⟨v, H', I3, rv, ev, q3⟩ := I2.after hq'
      subst ev
      exact ⟨rv, ⟨V.ref (s1.heap.objs.size + 1), H', I3, rfl, q3⟩⟩
    | next => exact False.elim hq'
    | brk => exact False.elim hq'
    | cont => exact False.elim hq'
theorem pmk_rai (c : RaiX X.prog X.w X.K X.mg X.base k x C sp) (hr : Room j X.A) (hk : k + 1 ≤ j) (hg : Gl X x) (ha : PA X (e :: es) t) (hdb : (x == ("__debug__" : Str)) = false := by decide)
    (he : starEach (e :: es) X.env = (false, eval e X.env) :: starEach es X.env := by rfl) (hpl : (backTo pos (starEach es X.env)).any (·.1) = false := by rfl) : PMk X (.Call (.Name x p) (e :: es) [] pos) (tMkO C sp [] t) := by
  obtain ⟨f, fd, ps, T, iC, tI, F, hm, b⟩ := c.ex
  exact pmk_xc T iC tI F (hr.mono hk) b .nil C8.pass0 hg hm ha hdb he hpl
end
def wManyA (K : PySem.W.Frag) (Wout : WX) (D : Ends) : List (Value × Option Nat × (Addr → Value → Option Addr → TS)) → WX
  | [] => Wout
  | (c, none, ts) :: r => fun cls d σ H => ∃ b, PySem.W.exmOne K cls c = some b ∧ (b = true → ∀ a, H a = none → ts a cls d D σ H) ∧ (b = false → wManyA K Wout D r cls d σ H)
  | (c, some i, ts) :: r => fun cls d σ H => ∃ b, PySem.W.exmOne K cls c = some b ∧ (b = true → ∀ a, H a = none → ts a cls d { nx := fun σ' H' => D.nx (σ'.set i none) H', rt := D.rt, bk := fun σ' H' => D.bk (σ'.set i none) H', ct := fun σ' H' => D.ct (σ'.set i none) H' } (σ.set i (some (.ref a))) H) ∧
      (b = false → wManyA K Wout D r cls d σ H)
inductive HdsA (X : Cx) : List ExceptHandler → List (Value × Option Nat × (Addr → Value → Option Addr → TS)) → Prop
  | nil : HdsA X [] []
  | cons {x : Str} {c : Value} {ts : Addr → Value → Option Addr → TS} {b₀ : Stmt} {suite : List Stmt} {np pos' : Pos} {hds : List ExceptHandler} {l : List (Value × Option Nat × (Addr → Value → Option Addr → TS))} (hc : Names X x c)
      (hsu : ∀ (a : Addr) (oe : Obj) (cls : Value) (d : Option Addr) (pn : List (Addr × Obj)), Zc cls d oe → (∃ vs, oe.data = .fields vs) → PSs (X.suite a ((a, oe) :: pn)) (b₀ :: suite) (ts a cls d)) (r : HdsA X hds l) :
      HdsA X (.ExceptHandler (some (.Name x np)) none (b₀ :: suite) pos' :: hds) ((c, none, ts) :: l)
  | consA {x n : Str} {i : Nat} {c : Value} {ts : Addr → Value → Option Addr → TS} {b₀ : Stmt} {suite : List Stmt} {np pos' : Pos} {hds : List ExceptHandler} {l : List (Value × Option Nat × (Addr → Value → Option Addr → TS))} (hi : X.N[i]? = some n) (hln : X.env.kindOf n = some .local) (hc : Names X x c)
      (hsu : ∀ (a : Addr) (oe : Obj) (cls : Value) (d : Option Addr) (pn : List (Addr × Obj)), Zc cls d oe → (∃ vs, oe.data = .fields vs) → PSs (X.suite a ((a, oe) :: pn)) (b₀ :: suite) (ts a cls d)) (r : HdsA X hds l) :
      HdsA X (.ExceptHandler (some (.Name x np)) (some n) (b₀ :: suite) pos' :: hds) ((c, some i, ts) :: l)
section
variable {X : Cx} {body : List Stmt} {h₀ : ExceptHandler} {hds : List ExceptHandler} {l : List (Value × Option Nat × (Addr → Value → Option Addr → TS))} {pos : Pos} {tb : WX → TS} {Wout : WX}
theorem ps_try_manyA (hs : X.stack = X.env :: X.outer) (hf : X.env.frame = some X.env.locals) (hN : X.N.Nodup) (tk : Takes X Wout)
    (hb : ∀ (W : WX) (pn : List (Addr × Obj)) (xe : Value → Shared → Prop), Takes (X.tr pn xe) W → PassesOwn (model X.prog X.w) X.A X.env xe → PSs (X.tr pn xe) body (tb W))
    (hh : HdsA X (h₀ :: hds) l) : PS X (.Try body (h₀ :: hds) [] [] pos) (fun D σ H => tb (wManyA X.K Wout D l) D σ H) := by
  refine ⟨fun pins s σ H D I h => ?_⟩
  have ok := I.ok
  have hfr : X.A.frames = some (X.env :: X.outer) := by rw [ok.frames, hs]
  refine wpAny_Try_except ?_
  refine wpAny_mono ((hb (wManyA X.K Wout D l) (X.pn ++ pins) (fun e s₁ => wpAny (model X.prog X.w) X.A (noteFrame e X.env) (fun _ s₂ => wpAny (model X.prog X.w) X.A (setFlight e none) (fun _ s₃ =>
    wpAny (model X.prog X.w) X.A (handleBy e X.env (h₀ :: hds)) (SP X pins D) X.xe s₃) X.xe s₂) X.xe s₁) (fun u s' xx => ?_) PassesOwn.looking).run [] s σ H D (I.toTry _) h) (fun f s1 hsp => ?_) (fun e s1 he => he)
  · obtain ⟨a, B, sI, pins', σ', H', cls, d, rfl, J', nb, up, sky, na, os, ag, w⟩ := xx
    have J : Inv X pins σ' H' sI := J'.ofTry ok
    have sky' : Sky B (X.env :: X.outer) a (Zc cls d) X.env.locals s'.heap := by rw [← hs]; exact sky
    show wpAny (model X.prog X.w) X.A (noteFrame (.ref a) X.env) _ _ _
    refine Sky.land Zc.steady hfr hf sky' fun h3 fl3 up3 => ?_
    have J3 : Inv X pins σ' H' { s' with heap := h3 } := J.landed nb fl3.1 (up.trans up3) os ag
    obtain ⟨oe3, vs3, he3, hz3, hd3⟩ := fl3.there
    have notFr : ∀ {h : Heap} {o : Obj} {vs : Array Value}, h.FunFrames B (X.env :: X.outer) → h.get? a = some o → o.data = .fields vs → a ∉ frs (X.env :: X.outer) := fun {h o vs} ff e dd hm => by
      obtain ⟨_, o', e', hnf⟩ := ff.mem hm
      rw [e] at e'; cases e'
      exact hnf _ dd
    have nfr := notFr fl3.2.2.1 he3 hd3
    have nL : a ≠ X.env.locals := fun z => nfr (List.mem_filterMap.mpr ⟨X.env, List.mem_cons_self, by rw [hf, z]⟩)
    have nF : a ∉ X.fs := fun hm => by
      obtain ⟨e, he, q⟩ := List.mem_filterMap.mp hm
      exact nfr (List.mem_filterMap.mpr ⟨e, List.mem_cons_of_mem _ he, q⟩)
    have S3 := J3.suite he3 hd3 na nL nF
    have LT : PySem.W.Looks (model X.prog X.w) h3 (typeOf (.ref a)) cls := fun A Q E s k q => wpAny_typeOf_ref (k _ _ he3) (by rw [hz3.1]; exact q)
    have test : ∀ {x : Str} {c : Value} {np : Pos} (hc : Names X x c) {Q : Value → Shared → Prop} {E : Value → Shared → Prop}, Q c { s' with heap := h3 } → wpAny (model X.prog X.w) (X.A.mark (some (.ref a))) (eval (.Name x np) X.env) Q E { s' with heap := h3 } := fun {x c np} hc {Q E} q => by
      obtain ⟨hg, hdbg, hm | ⟨hm, hv, hnn⟩⟩ := hc
      · exact ld_glob (X := X.suite a ((a, oe3) :: (X.pn ++ pins))) S3 hg hm q hdbg
      · exact ld_blt (X := X.suite a ((a, oe3) :: (X.pn ++ pins))) S3 hg hm hv q hnn hdbg
    have go : ∀ {hds' : List ExceptHandler} {l' : List (Value × Option Nat × (Addr → Value → Option Addr → TS))}, HdsA X hds' l' → wManyA X.K Wout D l' cls d σ' H' →
        wpAny (model X.prog X.w) X.A (handleBy (.ref a) X.env hds') (SP X pins D) X.xe { s' with heap := h3 } := by
      intro hds' l' hk
      induction hk with
      | nil =>
        intro w
        refine wpAny_handleBy_nil ?_
        obtain ⟨k1, k2, k3, oe, vs, T, oT, ts', he, hz, hd, h1, hr⟩ := id fl3
        unfold PySem.passOn
        refine wpAny_bind (wpAny_field he hd h1 ?_)
        rw [if_neg (show ¬ ((Value.ref T == Value.none) = true) from by simp)]
        have fin : wpAny (model X.prog X.w) X.A (setFlight (.ref a) X.env.frame) (fun _ s4 => wpAny (model X.prog X.w) X.A (throw (.ref a) : Sem Flow) (SP X pins D) X.xe s4) X.xe { s' with heap := h3 } := by
          rw [hf]
          refine HandSPX.setFlight_upZ fl3 fun h4 hh4 up4 => wpAny_throw (tk _ _ ?_)
          exact ⟨a, B, sI, pins, σ', H', cls, d, rfl, J, nb, (up.trans up3).trans up4, .inr (.inr (by rw [hs]; exact hh4)), na, os, ag, w⟩
        first
          | exact wpAny_bind (wpAny_pure (wpAny_bind fin))
          | exact wpAny_bind fin
      | @cons x c ts b₀ suite np pos' hds2 l2 hc hsu r ih =>
        intro w
        obtain ⟨b, hb1, hyes, hno⟩ := w
        refine wpAny_handleBy_cons (codeAny_handlers_test ?_) (by intro q; cases q)
        have LM := PySem.W.exm_one (M := model X.prog X.w) (J3.kIn) LT hb1
        refine test hc (LM.here ?_)
        cases b with
        | true =>
          refine codeAny_handlers_suite ?_
          refine HandSPX.lands_againZ fl3 fun h4 fl4 up4 => ?_
          have J4 : Inv X pins σ' H' { s' with heap := h4 } := J.landed nb fl4.1 ((up.trans up3).trans up4) os ag
          obtain ⟨oe4, vs4, he4, hz4, hd4⟩ := fl4.there
          have S4 := J4.suite he4 hd4 na nL nF
          refine wpAny_mono ((hsu a oe4 cls d (X.pn ++ pins) hz4 ⟨_, hd4⟩).run [] _ _ H' _ S4 (hyes rfl a na)) (fun f s6 hsp => ?_) (fun _ _ z => False.elim z)
          cases f with
          | next =>
            obtain ⟨σ6, H6, S6, q6⟩ := hsp
            exact ⟨_, _, S6.unsuite ok, q6⟩
          | brk =>
            obtain ⟨σ6, H6, S6, q6⟩ := hsp
            exact ⟨_, _, S6.unsuite ok, q6⟩
          | cont =>
            obtain ⟨σ6, H6, S6, q6⟩ := hsp
            exact ⟨_, _, S6.unsuite ok, q6⟩
          | ret u =>
            obtain ⟨v6, σ6, H6, S6, r6, q6⟩ := hsp
            exact ⟨_, _, _, S6.unsuite ok, r6, q6⟩
        | false =>
          show wpAny _ X.A (handleBy (.ref a) X.env hds2) _ _ _
          exact ih (hno rfl)
      | @consA x n i c ts b₀ suite np pos' hds2 l2 hi hln hc hsu r ih =>
        intro w
        obtain ⟨b, hb1, hyes, hno⟩ := w
        refine wpAny_handleBy_cons (codeAny_handlers_test ?_) (by intro q; cases q)
        have LM := PySem.W.exm_one (M := model X.prog X.w) (J3.kIn) LT hb1
        refine test hc (LM.here ?_)
        cases b with
        | true =>
          refine codeAny_handlers_suite_as ?_
          refine HandSPX.lands_againZ fl3 fun h4 fl4 up4 => ?_
          have J4 : Inv X pins σ' H' { s' with heap := h4 } := J.landed nb fl4.1 ((up.trans up3).trans up4) os ag
          obtain ⟨oe4, vs4, he4, hz4, hd4⟩ := fl4.there
          have S4 := J4.suite he4 hd4 na nL nF
          refine store_ok (X := X.suite a ((a, oe4) :: (X.pn ++ pins))) (v := .ref a) S4 hN hi (.inl hln) rfl (fun s5 S5 => ?_) (.inr hln)
          refine wpAny_mono ((hsu a oe4 cls d (X.pn ++ pins) hz4 ⟨_, hd4⟩).run [] s5 _ H' _ S5 (hyes rfl a na)) (fun f s6 hsp => ?_) (fun _ _ z => False.elim z)
          have end_ : ∀ {σ6 : L2.St} {H6 : Hp} {Q : Shared → Prop}, Inv (X.suite a ((a, oe4) :: (X.pn ++ pins))) [] σ6 H6 s6 → (∀ s7, Inv X pins (σ6.set i none) H6 s7 → Q s7) →
              wpAny (model X.prog X.w) X.A (do bindName X.env n .none; unbindBehindTheSuite X.env n pos') (fun _ s7 => Q s7) X.xe s6 := fun {σ6 H6 Q} S6 hq => gone_ok (S6.unsuite ok) hN hi hln hq
          cases f with
          | next =>
            obtain ⟨σ6, H6, S6, q6⟩ := hsp
            exact end_ S6 fun s7 J7 => ⟨_, _, J7, q6⟩
          | brk =>
            obtain ⟨σ6, H6, S6, q6⟩ := hsp
            exact end_ S6 fun s7 J7 => ⟨_, _, J7, q6⟩
          | cont =>
            obtain ⟨σ6, H6, S6, q6⟩ := hsp
            exact end_ S6 fun s7 J7 => ⟨_, _, J7, q6⟩
          | ret u =>
            obtain ⟨v6, σ6, H6, S6, r6, q6⟩ := hsp
            exact end_ S6 fun s7 J7 => ⟨_, _, _, J7, r6, q6⟩
        | false =>
          show wpAny _ X.A (handleBy (.ref a) X.env hds2) _ _ _
          exact ih (hno rfl)
    exact go hh w
  · cases f with
    | next =>
      obtain ⟨σ', H', J', q⟩ := hsp
      exact wpAny_execs_nil ⟨σ', H', J'.ofTry ok, q⟩
    | brk =>
      obtain ⟨σ', H', J', q⟩ := hsp
      exact ⟨σ', H', J'.ofTry ok, q⟩
    | cont =>
      obtain ⟨σ', H', J', q⟩ := hsp
      exact ⟨σ', H', J'.ofTry ok, q⟩
    | ret u =>
      obtain ⟨v, σ', H', J', r, q⟩ := hsp
      exact ⟨v, σ', H', J'.ofTry ok, r, q⟩
end
end LX
set_option maxHeartbeats 4000000
namespace LX
open PySem PySem.Spec PyProof.Rows L2 C8 SX
section
variable {prog : Program} {w : World} {A : Around} {R : Result → Shared → Prop} {I S : Addr} {fp wr : List Addr} {G : Array GenState → Array GenState → Prop} {n : Nat} {P : Nat → Value → Prop} {St : Nat → Shared → Prop}
def cntT (xs : List Str) : Nat → Nat
  | 0 => 0
  | i + 1 => if (xs.take i).contains (xs.getD i default) then cntT xs i else cntT xs i + 1
theorem cntT_succ {xs : List Str} {i : Nat} {x : Str} (h : xs[i]? = some x) : (if decide (x ∈ xs.take i) = true then cntT xs i else cntT xs i + 1) = cntT xs (i + 1) := by
  have e : xs.getD i default = x := by rw [List.getD_eq_getElem?_getD, h]; rfl
  show _ = if (xs.take i).contains (xs.getD i default) then cntT xs i else cntT xs i + 1
  rw [e]
  by_cases q : x ∈ xs.take i <;> simp [q]
theorem cntT_le (xs : List Str) : ∀ i, cntT xs i ≤ i
  | 0 => Nat.le_refl _
  | i + 1 => by
    have := cntT_le xs i
    unfold cntT
    split <;> omega
abbrev ElemG (prog : Program) (w : World) (xs : List Str) (i : Nat) (S : Addr) (h : Heap) : Prop := h.SetOf (PySem.strKind prog w) S (fun k => decide (k ∈ xs.take i)) (cntT xs i)
theorem ElemG.stay {xs : List Str} {i : Nat} {h h' : Heap} (e : ElemG prog w xs i S h) (k : ∀ o, h.get? S = some o → h'.get? S = some o) : ElemG prog w xs i S h' :=
  let ⟨o, es, ep, tb, ho, rest⟩ := e; ⟨o, es, ep, tb, k o ho, rest⟩
theorem set_loopG (W : WalksS prog w A.in1 I fp wr G n P St) (off : S ∉ fp) {xs : List Str} (hl : xs.length = n) (room : n < scanBound) (val : ∀ i v, P i v → ∃ x t, xs[i]? = some x ∧ v = .str x t) :
    ∀ (k i : Nat) (s : Shared), i + k = n → St i s → ElemG prog w xs i S s.heap → (∀ s', Moved (S :: wr) G s s' → ElemG prog w xs n S s'.heap → R (.ok (.ret .none)) s') →
      codeAny (model prog w) A (.builtin "set.update.loop" ⟨[.ref S, .ref I], []⟩) R s
  | 0, i, s, hk, hst, he, hR => by
    obtain rfl : i = n := hk
    refine codeAny_builtin PyProof.Rows.F.entry_set_update_loop ?_
    rw [Around.under_plainId PyProof.Rows.F.plain_set_update_loop _]
    refine wpAny_bind (W.done s _ _ hst fun s' hm => wpAny_pure (hR s' (hm.mono fun b hb => List.mem_cons_of_mem _ hb) (he.stay fun o e => hm.heap S o (fun h => off (W.sub _ h)) e)))
  | k + 1, i, s, hk, hst, he, hR => by
    refine codeAny_builtin PyProof.Rows.F.entry_set_update_loop ?_
    rw [Around.under_plainId PyProof.Rows.F.plain_set_update_loop _]
    refine wpAny_bind (W.item i s _ _ (by omega) hst fun v s' hP hst' hm => ?_)
    obtain ⟨x, t, hx, rfl⟩ := val i v hP
    have he' : ElemG prog w xs i S s'.heap := he.stay fun o e => hm.heap S o (fun h => off (W.sub _ h)) e
    show wpAny _ A.in1 (holding [Value.str x t] (setAdd S (.str x t)) >>= _) _ _ s'
    refine wpAny_bind (wpAny_holding ?_)
    unfold setAdd
    refine wpAny_holding (wpAny_bind ((PySem.strKind prog w).pyHash (k := x) (strKind_is _ _ _ _) ?_))
    refine wpAny_setAddHashed_of (knd := PySem.strKind prog w) (s := { s' with toks := s'.toks + 1 }) (strKind_is _ _ _ _) rfl he' (by have := cntT_le xs i; omega) fun h' hsb hS2 => ?_
    have he2 : ElemG prog w xs (i + 1) S h' := SetOf_congr hS2 (fun y => by rw [take_more hx]; by_cases e : y ∈ xs.take i <;> by_cases e2 : y = x <;> simp [e, e2]) (cntT_succ hx)
    refine wpAny_pure ⟨plainId_quiet PyProof.Rows.F.plain_set_update_loop _, set_loopG W off hl room val k (i + 1) _ (by omega) (W.frame _ s' _ _ hst' (Nat.le_succ _) fun b hb o e => ?_) he2 fun s2 hm2 he3 => ?_⟩
    · rw [hsb.2 b (fun h => off (h ▸ hb))]; exact e
    · refine hR s2 (Moved.trans W.gtrans ((hm.mono fun b hb => List.mem_cons_of_mem _ hb).then_heap (Nat.le_succ _) fun b o hb e => ?_) hm2) he3
      rw [hsb.2 b (fun h => hb (by rw [h]; exact List.mem_cons_self))]; exact e
end
section
variable {prog : Program} {w : World} {A : Around} {E : Value → Shared → Prop} {s : Shared}
theorem set_of_listG {l : Addr} {items : Array Value} {xs : List Str} {Q : Value → Shared → Prop} (hh : A.handled = none) (hl : s.heap.IsList l items) (hi : PyProof.Rows.StrsAre items.toList xs) (room : xs.length < scanBound)
    (h : ∀ (h' : Heap) (tk : Nat), ElemG prog w xs xs.length s.heap.objs.size h' → (∀ b o, s.heap.get? b = some o → h'.get? b = some o) → Q (.ref s.heap.objs.size) { s with heap := h', toks := tk }) :
    wpAny (model prog w) A (call (.type "set") [.ref l]) Q E s := by
  obtain ⟨c, tl, hmro⟩ := PySem.F.called_set.mro
  have hmade := PySem.F.called_set.made
  have hsub := PySem.F.called_set.sub
  refine wpAny_call (codeAny_of_tree ?_)
  refine wpAny_pure ⟨Code.quiet_builtin _ (by decide +kernel), codeAny_builtin PySem.F.entry_type_call ?_⟩
  rw [Around.under_plain (weight_type_call_type "set" [.ref l] []) rfl]
  have nt := PySem.F.called_set.notType
  have cc := PySem.F.called_set.canCreate
  have ct := PySem.F.typeCall_set_1 (.ref l)
  repeat (any_goals (first | assumption | wp_step))
  refine codeAny_mono (code_set_new_1 (.ref l) (E := E) (Q₁ := fun obj s1 => ∃ led : Bool, obj = .ref s.heap.objs.size ∧ s1 = { s with heap := s.heap.push { cls := .type "set", dict := none, data := .set #[] 0 (.fresh 0 0 led) } }) fun led => ⟨led, rfl, rfl⟩) fun r s1 hr => ?_
  match r, hr with
  | .ok (.ret obj), hr =>
    obtain ⟨led, rfl, rfl⟩ := hr
    have hS : (s.heap.push (setO led)).get? s.heap.objs.size = some (setO led) := Heap.get?_push_size _ rfl
    have hTy : Shared.TypeIs { s with heap := s.heap.push (setO led) } (.ref s.heap.objs.size) "set" := ⟨_, hS, rfl⟩
    have li := PySem.F.called_set.init.lookup
    have bi := PySem.F.called_set.init.bind (.ref s.heap.objs.size)
    repeat (any_goals (first | assumption | wp_step))
    refine codeAny_mono (codeAny_call_builtin (R := wants (fun r s2 => r = .none ∧ ∃ h' tk, s2 = { s with heap := h', toks := tk } ∧ ElemG prog w xs xs.length s.heap.objs.size h' ∧ (∀ b o, s.heap.get? b = some o → h'.get? b = some o)) E)
      PySem.F.called_set.init.plain PySem.F.entry_set_init (check_set_init_1 hTy ?_)) fun r2 s2 hr2 => ?_
    · obtain ⟨⟨oc, od, odt, osl⟩, hol, hcl, nl, hdl⟩ := hl
      dsimp only at hcl hdl
      subst hcl hdl
      have hol' : (s.heap.push (setO led)).get? l = some { cls := .type "list", dict := od, data := .seq items nl, slots := osl } := Heap.get?_push_of_some _ hol
      have ss := PySem.F.sub_list_set
      have sf := PySem.F.sub_list_frozenset
      have ne : (Value.type "list" == Value.type "dict") = false := by decide
      have hl1 : (s.heap.push (setO led)).IsList l items := ⟨_, hol', rfl, nl, rfl⟩
      unfold Builtin.«set.__init__» noKeywords Builtin.Frozenset.updateFrom
      generalize hPI : pyIter = PI
      wp_walk
      subst hPI
      refine wpAny_pyIter_list hl1 ?_
      refine wpAny_bind (wpAny_runValue ?_)
      have hlS : l < s.heap.objs.size := Heap.lt_size hol
      have hz : (s.heap.push (setO led)).objs.size = s.heap.objs.size + 1 := Heap.size_push ..
      have neI : l ≠ (s.heap.push (setO led)).objs.size := by rw [hz]; exact Nat.ne_of_lt (Nat.lt_succ_of_lt hlS)
      have off : s.heap.objs.size ∉ [(s.heap.push (setO led)).objs.size, l] := by
        rw [hz]; simp only [List.mem_cons, List.not_mem_nil, or_false, not_or]
        exact ⟨Nat.ne_of_lt (Nat.lt_succ_self _), Nat.ne_of_gt hlS⟩
      have hsz : xs.length = items.size := by rw [← StrsAre.len_eq hi, Array.length_toList]
      refine set_loopG (xs := xs) ((Walks.list (A := A.in1.in1.in1) (by simp [hh]) _ l neI items).toS) off hsz (by rw [← hsz]; exact room) (fun i v hv => ?_) items.size 0 _ (Nat.zero_add _) ⟨⟨_, Heap.get?_push_size _ rfl, rfl, rfl⟩, hl1.push _⟩ ?_ fun s' hm hS' => ?_
      · obtain ⟨t, e⟩ := SS.strs_at hi i v (by rw [Array.getElem?_toList]; exact hv)
        have hlt : i < xs.length := by rw [hsz]; exact (Array.getElem?_eq_some_iff.mp hv).1
        exact ⟨xs[i], t, List.getElem?_eq_getElem hlt, by rw [e, List.getD_eq_getElem?_getD, List.getElem?_eq_getElem hlt]; rfl⟩
      · exact PyProof.Rows.SetOf_congr ((PyProof.Rows.setObjOf_fresh (knd := PySem.strKind prog w) led).setOf (Heap.get?_push_of_some _ hS) (by unfold scanBound; omega)) (fun _ => by simp) rfl
      · obtain ⟨h', g', d', tk', os'⟩ := s'
        obtain rfl : g' = s.gens := hm.gens
        obtain rfl : d' = s.drawn := hm.drawn
        obtain rfl : os' = s.os := hm.os
        refine wpAny_pure (wpAny_pure ⟨rfl, h', tk', rfl, by rw [hsz]; exact hS', fun b o e => ?_⟩)
        have hb : b < s.heap.objs.size := Heap.lt_size e
        refine hm.heap b o (fun hmem => ?_) (Heap.get?_push_of_some _ (Heap.get?_push_of_some _ e))
        have e' : b = s.heap.objs.size ∨ b = (s.heap.push (setO led)).objs.size := by simpa using hmem
        rcases e' with e' | e'
        · exact Nat.ne_of_lt hb e'
        · rw [hz] at e'; exact Nat.ne_of_lt (Nat.lt_succ_of_lt hb) e'
    · match r2, hr2 with
      | .ok (.ret r), hr2 =>
        obtain ⟨rfl, h', tk, rfl, hS', hk'⟩ := hr2
        repeat (any_goals (first | assumption | wp_step))
        exact h _ _ hS' hk'
      | .error e, hr2 => exact hr2
  | .error e, hr => exact hr
end
section
variable {X : Cx}
def tLenSetG (K : PySem.W.Frag) (ta : TE) : TE := fun σ H Q => ta σ H fun x H1 => ∃ (l : Addr) (xs : List (List Nat)), x = V.ref l ∧ SqL K H1 l (txs xs) ∧ xs.length < 60 ∧ Q (.int (cntT (xs.map S) xs.length : Nat)) H1
theorem pe_lenSetG {a : Expr} {ta : TE} {p p2 q pos : Pos} (hc : X.calm = true) (hg : Gl X "len") (hm : X.mg "len" = none) (hg2 : Gl X "set") (hm2 : X.mg "set" = none) (ha : PE X a ta)
    (na : starEach [a] X.env = (false, eval a X.env) :: starEach [] X.env := by rfl) : PE X (.Call (.Name "len" p) [.Call (.Name "set" p2) [a] [] q] [] pos) (tLenSetG X.K ta) := by
  refine ⟨fun pins s σ H Q I h => ?_⟩
  refine Call_ (ld_blt I hg hm PySem.boot_len (PyProof.Rows.callWith_builtin1 (PyProof.Rows.args_cons ?_ rfl) rfl rfl))
  refine Call_ (ld_blt I hg2 hm2 PyProof.Rows.boot_set (PyProof.Rows.callWith_type1 (PyProof.Rows.args_cons (thn (ha.run pins s σ H _ I h) fun v s1 ⟨x, H1, I1, r1, q1⟩ => PyProof.Rows.args_nil ?_) na) na rfl))
  obtain ⟨l, xs, rfl, hq, h1, q1⟩ := q1
  cases r1
  have e0 : txs xs = (xs.map S).map V.str := by unfold txs; rw [List.map_map]; rfl
  have room : (xs.map S).length < scanBound := by rw [List.length_map]; unfold scanBound; omega
  rw [e0] at hq
  obtain ⟨its, r, pl, hz⟩ := I1.list hq
  refine set_of_listG (I1.ok.hd hc) pl.isList (by simpa using strsAre_of r) room fun h' tk hS hk => ?_
  refine PyProof.Rows.args_nil ?_
  obtain ⟨o, es, ep, t, ho, hex, hd, _, _, _, hf, hn⟩ := hS
  have I2 : Inv X pins σ H1 { s1 with heap := h', toks := tk } := I1.kept hk
  rw [List.length_map] at hn
  have := cntT_le (xs.map S) xs.length
  exact call_len_set ho hex hd hf (by rw [hn]; omega) ⟨.int (cntT (xs.map S) xs.length : Nat), H1, I2.tok _, ⟨_, by rw [hn]⟩, q1⟩
end
end LX
set_option maxHeartbeats 1000000
namespace LX
open PySem PySem.Spec PyProof.Rows L2 C8 SX
section
variable {X : Cx} {K : PySem.W.Frag} {H : Hp}
def inz (xs : List Int) : List V := xs.map V.int
theorem inz_len (xs : List Int) : (inz xs).length = xs.length := List.length_map ..
theorem dp_inz : ∀ xs : List Int, DpAll K H (inz xs) (xs.map PyData.int)
  | [] => .nil
  | x :: xs => .cons (.int _) (dp_inz xs)
theorem lay_inz : ∀ xs : List Int, PyData.canLayAll0 (xs.map PyData.int) = true ∧ PyData.depthAll (xs.map PyData.int) ≤ 1
  | [] => ⟨rfl, Nat.zero_le _⟩
  | x :: xs => by
    obtain ⟨h1, h2⟩ := lay_inz xs
    refine ⟨?_, ?_⟩
    · show (PyData.canLay0 (.int x) && PyData.canLayAll0 (xs.map PyData.int)) = true
      rw [h1, Bool.and_true]; rfl
    · show max (PyData.depth (.int x)) (PyData.depthAll (xs.map PyData.int)) ≤ 1
      have e : PyData.depth (.int x) ≤ 1 := Nat.zero_le _
      omega
theorem shaped_inz (xs : List Int) : SeqAt.shaped (.list (xs.map PyData.int)) = true := by
  obtain ⟨h1, h2⟩ := lay_inz xs
  show (PyData.canLayAll0 _ && decide (PyData.depthAll _ + 1 ≤ 64)) = true
  rw [h1, Bool.true_and, decide_eq_true_eq]; omega
def rNeE : R2 := fun x y H Q => ∃ (a b : Addr) (xs : List Int), x = .ref a ∧ y = .ref b ∧ H a = some (.lst (inz xs)) ∧ H b = some (.lst []) ∧ Q (.bl (!xs.isEmpty)) H
theorem op_neE {k : Nat} (hr : Room k X.A) : OpR X (compareOp .NotEq) rNeE := by
  intro pins s σ H x y v u Q I rx ry h
  obtain ⟨a, b, xs, rfl, rfl, ha, hb, q⟩ := h
  refine op_neD hr.units pins s σ H _ _ v u Q I rx ry ⟨_, _, .lst (SqL.of ha) (dp_inz xs), .lst (SqL.of hb) .nil, shaped_inz xs, shaped_inz [], ?_⟩
  cases xs with
  | nil => exact q
  | cons x xs => exact q
theorem at_last {xs : List V} {v : V} (h : 0 < xs.length) (e : xs[xs.length - 1]? = some v) : atI xs (-1) = some v := by
  have : ixN xs.length (-1) = some (xs.length - 1) := by
    unfold ixN
    rw [if_neg (by decide), if_pos (by omega)]
    congr 1; omega
  unfold atI
  rw [this]; exact e
def SeqV (K : PySem.W.Frag) (H : Hp) (x : V) (ys : List V) : Prop :=
  (∃ p, x = .ref p ∧ (SqL K H p ys ∨ SqT K H p ys)) ∨ ∃ l : List Nat, x = .str (S l) ∧ l.length ≤ sizeLine ∧ ys = l.map fun c => V.str (S [c])
def rLenA (K : PySem.W.Frag) : List V → Hp → VK → Prop := fun xs H Q => ∃ x ys, xs = [x] ∧ SeqV K H x ys ∧ Q (.int ys.length) H
theorem lenA (K : PySem.W.Frag) (h : X.K = K := by rfl) : CallR X (.builtin "len") (rLenA K) := by
  subst h
  intro pins s σ H xs us Q I r q
  obtain ⟨x, ys, rfl, hh, q⟩ := q
  rcases hh with ⟨p, rfl, hp⟩ | ⟨l, rfl, hl, rfl⟩
  · exact lenK X.K rfl pins s σ H _ us Q I r ⟨p, ys, rfl, hp, q⟩
  · refine call_len_str pins s σ H _ us Q I r ⟨S l, rfl, by rw [S_len]; exact hl, ?_⟩
    rw [S_len]
    rw [List.length_map] at q
    exact q
def rIxA (K : PySem.W.Frag) : R2 := fun x y H Q => ∃ ys i v, y = .int i ∧ SeqV K H x ys ∧ atI ys i = some v ∧ Q v H
theorem ixA (K : PySem.W.Frag) (h : X.K = K := by rfl) : IxR X (rIxA K) := by
  subst h
  intro value slice pins s σ H x y v u Q I rx ry q hs
  obtain ⟨ys, i, w, rfl, hh, ha, q⟩ := q
  refine ix_seq value slice pins s σ H x (.int i) v u Q I rx ry ?_ hs
  rcases hh with ⟨p, rfl, hp | hp⟩ | ⟨l, rfl, hl, rfl⟩
  · exact .inl ⟨p, ys, i, w, rfl, rfl, hp, ha, q⟩
  · exact .inr (.inl ⟨p, ys, i, w, rfl, rfl, hp, ha, q⟩)
  · have e : ∀ j, (l.map fun c => V.str (S [c]))[j]? = (l[j]?).map fun c => V.str (S [c]) := fun j => List.getElem?_map ..
    have e2 : atI l i = none ∧ w = w ∨ ∃ c, atI l i = some c ∧ w = .str (S [c]) := by
      unfold atI at ha ⊢
      rw [List.length_map] at ha
      cases hx : ixN l.length i with
      | none => rw [hx] at ha; cases ha
      | some j =>
        rw [hx] at ha
        have ha : (l.map fun c => V.str (S [c]))[j]? = some w := ha
        rw [e] at ha
        cases hc : l[j]? with
        | none => rw [hc] at ha; cases ha
        | some c => rw [hc] at ha; exact .inr ⟨c, hc, (Option.some.inj ha).symm⟩
    rcases e2 with ⟨e3, _⟩ | ⟨c, e3, rfl⟩
    · exfalso
      unfold atI at ha e3
      rw [List.length_map] at ha
      cases hx : ixN l.length i with
      | none => rw [hx] at ha; cases ha
      | some j =>
        rw [hx] at ha e3
        have ha : (l.map fun c => V.str (S [c]))[j]? = some w := ha
        have e3 : l[j]? = none := e3
        rw [e, e3] at ha; cases ha
    · exact .inr (.inr ⟨S l, i, c, rfl, rfl, by rw [S_len]; exact hl, e3, q⟩)
theorem le1000 {n : Nat} (h : n ≤ 1000) : n ≤ sizeLine := Nat.le_trans h (by decide)
theorem inz_get {cs : List Int} {i : Nat} {x : V} (h : (inz cs)[i]? = some x) : ∃ z, cs[i]? = some z ∧ x = .int z := by
  unfold inz at h
  rw [List.getElem?_map] at h
  cases q : cs[i]? with
  | none => rw [q] at h; cases h
  | some l => rw [q] at h; exact ⟨l, rfl, (Option.some.inj h).symm⟩
theorem inz_of : ∀ {ys : List V}, (∀ (j : Nat) y, ys[j]? = some y → ∃ z : Int, y = .int z) → ∃ cs : List Int, ys = inz cs
  | [], _ => ⟨[], rfl⟩
  | y :: ys, h => by
    obtain ⟨z, rfl⟩ := h 0 y rfl
    obtain ⟨cs, rfl⟩ := inz_of (ys := ys) fun j z q => h (j + 1) z q
    exact ⟨z :: cs, rfl⟩
theorem nxt {D : Ends} {σ : L2.St} {H : Hp} (h : D.nx σ H) : tNext D σ H := h
end
end LX
set_option maxHeartbeats 2000000
namespace LX
open PySem PySem.Spec PyProof.Rows L2 C8 SX
theorem pi_zipXK {X : Cx} {e e2 : Expr} {ta : TA} {p pos tpos : Pos} {elts : List Expr} {kk : Nat} (K : PySem.W.Frag) (hg : Gl X "zip") (hm : X.mg "zip" = none) (ha : PA X [e, e2] ta) (h : X.K = K := by rfl)
    (hs : starEach [e, e2] X.env = (false, eval e X.env) :: starEach [e2] X.env := by rfl) (hpl : (backTo pos (starEach [e2] X.env)).any (·.1) = false := by rfl) :
    PI X (.Tuple elts kk tpos) (.Call (.Name "zip" p) [e, e2] [] pos) (iZipX K ta) := by subst h; exact pi_zipX hg hm ha hs hpl
theorem pe_orE {X : Cx} {e : Expr} {t u : TE} (a : PE X e t) (b : PE X e u) : PE X e (fun σ H Q => t σ H Q ∨ u σ H Q) := ⟨fun pins s σ H Q I h => h.elim (a.run pins s σ H Q I) (b.run pins s σ H Q I)⟩
section
variable {X : Cx}
theorem lay_lists : ∀ cs : List (List (List Nat)), (∀ c ∈ cs, Small c) → PyData.canLayAll0 (cs.map fun c => PyData.list (c.map fun l => PyData.str (S l))) = true ∧ PyData.depthAll (cs.map fun c => PyData.list (c.map fun l => PyData.str (S l))) ≤ 9
  | [], _ => ⟨rfl, Nat.zero_le _⟩
  | c :: cs, h => by
    obtain ⟨h1, h2⟩ := lay_lists cs fun d hd => h d (List.mem_cons_of_mem _ hd)
    obtain ⟨g1, g2⟩ := lay_strs (h c List.mem_cons_self)
    refine ⟨?_, ?_⟩
    · show (PyData.canLayAll0 _ && PyData.canLayAll0 (cs.map fun c => PyData.list (c.map fun l => PyData.str (S l)))) = true
      rw [g1, h1]; rfl
    · show max (PyData.depthAll _ + 1) (PyData.depthAll (cs.map fun c => PyData.list (c.map fun l => PyData.str (S l)))) ≤ 9
      omega
theorem dp_lists {K : PySem.W.Frag} {H : Hp} : ∀ {rs : List Addr} {cs : List (List (List Nat))}, rs.length = cs.length → (∀ (i : Nat) r c, rs[i]? = some r → cs[i]? = some c → H r = some (.lst (txs c))) → DpAll K H (rs.map V.ref) (cs.map fun c => PyData.list (c.map fun l => PyData.str (S l)))
  | [], [], _, _ => .nil
  | r :: rs, c :: cs, hl, h => .cons (.lst (SqL.of (h 0 r c rfl rfl)) (dp_strs c)) (dp_lists (by simpa using hl) fun i r c e1 e2 => h (i + 1) r c e1 e2)
  | [], _ :: _, hl, _ => by simp at hl
  | _ :: _, [], hl, _ => by simp at hl
def rNeL : R2 := fun x y H Q => ∃ (a b : Addr) (rs : List Addr) (cs : List (List (List Nat))), x = .ref a ∧ y = .ref b ∧ H a = some (.lst (rs.map V.ref)) ∧ H b = some (.lst []) ∧ rs.length = cs.length ∧ (∀ (i : Nat) r c, rs[i]? = some r → cs[i]? = some c → H r = some (.lst (txs c))) ∧ (∀ c ∈ cs, Small c) ∧ Q (.bl (!rs.isEmpty)) H
theorem op_neL {k : Nat} (hr : Room k X.A) : OpR X (compareOp .NotEq) rNeL := by
  intro pins s σ H x y v u Q I rx ry h
  obtain ⟨a, b, rs, cs, rfl, rfl, ha, hb, hl, hall, hsm, q⟩ := h
  obtain ⟨h1, h2⟩ := lay_lists cs hsm
  refine op_neD hr.units pins s σ H _ _ v u Q I rx ry ⟨_, _, .lst (SqL.of ha) (dp_lists hl hall), .lst (SqL.of hb) .nil, ?_, rfl, ?_⟩
  · show (PyData.canLayAll0 _ && decide (PyData.depthAll _ + 1 ≤ 64)) = true
    rw [h1, Bool.true_and, decide_eq_true_eq]; omega
  · cases rs with
    | nil =>
      cases cs with
      | nil => exact q
      | cons _ _ => simp at hl
    | cons r rs =>
      cases cs with
      | nil => simp at hl
      | cons _ _ => exact q
end
end LX
set_option maxHeartbeats 2000000
namespace Toy
open PySem L2 C8 SX LX
local macro_rules | `(tactic| walk_at "c") => `(tactic| refine And.intro (by first | (show (0 : Int) < _; omega) | exact Or.inr ⟨by decide, by decide⟩ | exact Or.inl ⟨by decide, by decide⟩ | (exact ⟨by omega, by omega⟩)) ?_)
local macro_rules | `(tactic| walk_at "s1") => `(tactic| first | refine ⟨_, rfl, ?_⟩ | refine ⟨_, _, rfl, rfl, ?_⟩ | refine .inl ⟨_, rfl, ?_⟩ | walk_at "c")
local macro_rules | `(tactic| walk_at "s") => `(tactic| repeat (walk_at "s1"))
structure XQ (K : PySem.W.Frag) (mg : Str → Option Value) (n : Str) (C : Addr) : Prop where
  x : XC K C
  g : mg n = some (.ref C)
structure XN (K : PySem.W.Frag) (mg : Str → Option Value) (n : Str) (C : Addr) : Prop where
  q : PySem.W.excIn K C veT "ValueError.__new__" = true
  g : mg n = some (.ref C)
  k : PySem.W.keepIn K (.ref C) = true
  hb : PySem.W.subIn K (.ref C) (.type "BaseException") = some true
  ht : PySem.W.typeIn K (.ref C) = some (.type "type")
theorem XN.r {K : PySem.W.Frag} {mg : Str → Option Value} {n : Str} {C : Addr} (h : XN K mg n C) {X : Cx} (hX : X.K = K := by rfl) : Raises X (.ref C) := raises_own (by rw [hX]; exact h.hb) (by rw [hX]; exact h.ht)
def spXInit (C : Addr) (f : Str) : Sp := fun vs H Q _ => ∃ (a : Addr) (v : V), vs = [.ref a, v] ∧ H a = some (exo a C none) ∧ ∀ dx, H dx = none → dx ≠ a → Q .non (upd (upd H dx (exd dx [(f, v)])) a (exo a C (some dx)))
theorem exo_ne_exd {a C d : Addr} {dd : Option Addr} {fs : List (Str × V)} {H : Hp} (h1 : H a = none) : (upd H a (exo a C dd)) a ≠ none := by rw [upd_same]; simp
theorem raise_read {C : Addr} {f : Str} {v : V} {H : Hp} {Q : XK} (k : ∀ d, H d = none → Q (.ref C) (some d) (upd H d (.xd [(f, v)]))) (a : Addr) (ha : H a = none) :
    spXInit C f (.ref a :: ([v] ++ [])) (upd H a (exo a C none)) (fun v H2 => v = .non ∧ ∃ (d : Addr) (fs : List (Str × V)), H2 a = some (exo a C (some d)) ∧ H2 d = some (exd d fs) ∧ H d = none ∧ Q (.ref C) (some d) (upd (del H2 a) d (.xd fs))) (fun _ _ _ => False) := by
  refine ⟨a, v, rfl, upd_same, fun dx hdx nda => ⟨rfl, dx, [(f, v)], upd_same, by rw [upd_ne nda, upd_same], by rw [upd_ne nda] at hdx; exact hdx, ?_⟩⟩
  rw [upd_ne nda] at hdx
  have e : upd (del (upd (upd (upd H a (exo a C none)) dx (exd dx [(f, v)])) a (exo a C (some dx))) a) dx (.xd [(f, v)]) = upd H dx (.xd [(f, v)]) := by
    funext b
    by_cases h1 : b = dx
    · rw [h1, upd_same, upd_same]
    · rw [upd_ne h1, upd_ne h1]
      by_cases h2 : b = a
      · rw [h2, del_same, ha]
      · rw [del_ne h2, upd_ne h2, upd_ne h1, upd_ne h2]
  rw [e]
  exact k dx hdx
inductive Kv (K : PySem.W.Frag) (H : Hp) : V → Option (List Nat) → Prop
  | txt (l : List Nat) : Kv K H (.str (S l)) (some l)
  | no {v : V} {t : Value} (ty : TyX K H v t) (h : PySem.W.kitOne K t (.type "str") = some false) : Kv K H v none
theorem ty_seqL {K : PySem.W.Frag} {H : Hp} {a : Addr} {xs : List V} (h : SqL K H a xs) : TyX K H (.ref a) (.type "list") := by
  rcases h with (h | ⟨o, h⟩) | ⟨o, its, n, h1, h2, _⟩
  · exact .base (.lst h)
  · exact .base (.frz h)
  · exact .kList h1 h2
theorem ty_seqT {K : PySem.W.Frag} {H : Hp} {a : Addr} {xs : List V} (h : SqT K H a xs) : TyX K H (.ref a) (.type "tuple") := by
  rcases h with (h | ⟨o, h⟩) | ⟨o, its, n, h1, h2, _⟩
  · exact .base (.tup h)
  · exact .fTuple h
  · exact .kTuple h1 h2
theorem kv_ins {K : PySem.W.Frag} {H : Hp} {a C dx : Addr} {fs : List (Str × V)} (I : InsC K C) (hk : PySem.W.kitOne K (.ref C) (.type "str") = some false) (h : H a = some (.ins C dx fs)) : Kv K H (.ref a) none :=
  .no (.base (.ins h I.cl I.ha I.hn I.htk I.hm)) hk
theorem bools_of {ys : List V} {n : Nat} {f : Nat → Bool} (hl : ys.length = n) (h : ∀ (j : Nat) y, ys[j]? = some y → y = .bl (f j)) : ys = ((List.range n).map f).map V.bl := by
  rw [List.map_map]
  exact list_of hl h
theorem all_range {n : Nat} {f : Nat → Bool} : ((List.range n).map f).all id = decide (∀ i, i < n → f i = true) := by
  rw [Bool.eq_iff_iff, List.all_eq_true, decide_eq_true_eq]
  constructor
  · intro h i hi
    exact h _ (List.mem_map.mpr ⟨i, List.mem_range.mpr hi, rfl⟩)
  · intro h b hb
    obtain ⟨i, hi, rfl⟩ := List.mem_map.mp hb
    exact h i (List.mem_range.mp hi)
theorem ty_same {K : PySem.W.Frag} {H H' : Hp} (s : Same H H') {v : V} {t : Value} (h : TyX K H v t) : TyX K H' v t := by
  cases h with
  | base b =>
    cases b with
    | non => exact .base .non
    | bl x => exact .base (.bl x)
    | int i => exact .base (.int i)
    | str x => exact .base (.str x)
    | flt x => exact .base (.flt x)
    | lst e => exact .base (.lst (s _ _ e))
    | frz e => exact .base (.frz (s _ _ e))
    | tup e => exact .base (.tup (s _ _ e))
    | dK e => exact .base (.dK (s _ _ e))
    | dT e => exact .base (.dT (s _ _ e))
    | ins e cl ha hn htk hm => exact .base (.ins (s _ _ e) cl ha hn htk hm)
  | byt b => exact .byt b
  | set e => exact .set (s _ _ e)
  | kList e c => exact .kList e c
  | kTuple e c => exact .kTuple e c
  | kDict e c => exact .kDict e c
  | fTuple e => exact .fTuple (s _ _ e)
  | fDict e => exact .fDict (s _ _ e)
theorem kv_same {K : PySem.W.Frag} {H H' : Hp} (s : Same H H') {v : V} {o : Option (List Nat)} (h : Kv K H v o) : Kv K H' v o := by
  cases h with
  | txt l => exact .txt l
  | no ty hk => exact .no (ty_same s ty) hk
structure XG (mg : Str → Option Value) (n : Str) (C : Addr) : Prop where
  g : mg n = some (.ref C)
section
variable {P : Program} {w : World} {K : PySem.W.Frag} {mg : Str → Option Value} {base : Heap}
abbrev s_xnm : Stmt := inClass (top 6) 0
abbrev n_xnm : List Str := ["self", "mark"]
theorem sc_xnm : FnScope n_xnm ["self", "mark"] (fnScope s_xnm) := fnScope_by (by decide +kernel)
theorem ok_xnm {C : Addr} (x_ : XQ K mg "NoMark" C) (n_ : PySem.W.findIn K (.ref C) "mark" = some none) {f : Addr} (iC : PySem.W.findIn K (.ref C) "__init__" = some (some (.ref f))) (tI : PySem.W.typeIn K (.ref f) = some (.type "function")) {fd : FuncData} (F : C8.Fun K "__init__" "NoMark.__init__" s_xnm f fd) (b : Binds K fd ["self", "mark"] []) : RaiX P w K mg base 1 "NoMark" C (spXInit C "mark") := by
  refine raiX x_.x iC tI x_.g F b sc_xnm (fun vs H Q E h => ?_) (fun cdv A outer s H vs Q E hr h => ?_)
  · obtain ⟨a, v, rfl, _⟩ := h; rfl
  · obtain ⟨a, v, rfl, ha, k⟩ := h
    refine ⟨_, (pss_one (ps_ostG (pv 0) (pv 1))
      ), ?_⟩
    exact ⟨_, rfl, _, rfl, a, C, rfl, x_.x, n_, ha, fun dx h1 h2 => k dx h1 h2⟩
theorem cal_imp {P : Program} {w : World} {K : PySem.W.Frag} {mg : Str → Option Value} {base : Heap} {n : Str} {k : Nat} {sp sp' : Sp} (c : Cal P w K mg base k n sp []) (h : ∀ vs H Q E, sp' vs H Q E → sp vs H Q E) : Cal P w K mg base k n sp' [] := by
  obtain ⟨f, fd, ps, ds, F, a, b, c, d⟩ := c.ex
  exact ⟨f, fd, ps, ds, F.imp h, a, b, c, d⟩
def spIsSeqY (K : PySem.W.Frag) : Sp := fun vs H Q _ => ∃ (v : V) (t : Value) (b : Bool), vs = [v] ∧ (∀ H', Same H H' → TyX K H' v t) ∧ PySem.W.kitAny K t [.type "list", .type "tuple"] = some b ∧ ∀ H', Same H H' → Q (.bl b) H'
theorem ok_isseqY (T : BT mg) {f : Addr} {fd : FuncData} (F : Def K mg "is_sequence" s_isseq f fd) (b : Binds K fd ["value"] []) : Cal P w K mg base 1 "is_sequence" (spIsSeqY K) [] := by
  refine cal0 F b .nil sc_isseq (fun vs H Q E h => ?_) (fun cdv A outer s H vs Q E hr h => ?_)
  · obtain ⟨v, t, b, rfl, _⟩ := h; rfl
  · obtain ⟨v, ty, b, rfl, hd, hk, k⟩ := h
    refine ⟨_, (pss_one (ps_ret (pe_callB (isiTK K) (by rfl) T.m_isinstance PyProof.Rows.boot_isinstance (pa_cons (pv 0) (pa_cons (pe_tup (pa_cons (pe_bltn (v := .ty "list") (by rfl) T.m_list PyProof.Rows.boot_list rfl) (pa_cons (pe_bltn (v := .ty "tuple") (by rfl) T.m_tuple PyProof.Rows.boot_tuple rfl) pa_nil))) pa_nil))))
      ), ?_⟩
    walk_at "s"
    refine ⟨by decide, fun t ht => ?_⟩
    exact ⟨_, t, _, _, _, b, rfl, upd_same, .cons (.ty _) (.cons (.ty _) .nil), hd _ (sm_new ht), hk, k _ (sm_new ht)⟩
theorem kit_noseq {K : PySem.W.Frag} {a : String} (h1 : PySem.W.kitOne K (.type a) (.type "list") = some false) (h2 : PySem.W.kitOne K (.type a) (.type "tuple") = some false) : PySem.W.kitAny K (.type a) [.type "list", .type "tuple"] = some false :=
  kitAny_cons (b := false) h1 (fun _ => kitAny_cons (b := false) h2 (fun _ => rfl) (fun h => nomatch h)) (fun h => nomatch h)
theorem kit_list {K : PySem.W.Frag} : PySem.W.kitAny K (.type "list") [.type "list", .type "tuple"] = some true := kitAny_cons (b := true) (kit_ty (a := "list") (by decide +kernel)) (fun h => nomatch h) (fun _ => rfl)
theorem kit_tuple {K : PySem.W.Frag} : PySem.W.kitAny K (.type "tuple") [.type "list", .type "tuple"] = some true := kitAny_cons (b := false) (kit_ty (a := "tuple") (by decide +kernel)) (fun _ => kitAny_cons (b := true) (kit_ty (a := "tuple") (by decide +kernel)) (fun h => nomatch h) (fun _ => rfl)) (fun h => nomatch h)
abbrev s_ismark : Stmt := top 21
abbrev n_ismark : List Str := ["reader", "value"]
theorem sc_ismark : FnScope n_ismark ["reader", "value"] (fnScope s_ismark) := fnScope_by (by decide +kernel)
def markO (ms : List (List Nat)) : Option (List Nat) → Bool
  | some x => decide (x ∈ ms)
  | none => false
def spIsMarkD (K : PySem.W.Frag) (C : Addr) : Sp := fun vs H Q _ => ∃ (a : Addr) (sg : List Nat) (ms : List (List Nat)) (f : List Nat) (tg : List Nat → Nat → List Nat) (v : V) (o : Option (List Nat)), vs = [.ref a, v] ∧ Rdr C H a sg ms f tg ∧ Kv K H v o ∧ Q (.bl (markO ms o)) H
theorem ok_ismarkD {C : Addr} (T : BT mg) (CH : CR K C) {f : Addr} {fd : FuncData} (F : Def K mg "is_mark" s_ismark f fd) (b : Binds K fd ["reader", "value"] []) : Cal P w K mg base 1 "is_mark" (spIsMarkD K C) [] := by
  refine cal0 F b .nil sc_ismark (fun vs H Q E h => ?_) (fun cdv A outer s H vs Q E hr h => ?_)
  · obtain ⟨a, sg, ms, f, tg, v, o, rfl, _⟩ := h; rfl
  · obtain ⟨a, sg, ms, f, tg, v, o, rfl, ⟨dx, m, st, nu, le, sa, la, co, ca, r, hcol⟩, hv, k⟩ := h
    refine ⟨_, (pss_one (ps_ret (pe_and (pe_callB (isiK K) (by rfl) T.m_isinstance PyProof.Rows.boot_isinstance (pa_cons (pv 1) (pa_cons (pe_bltn (v := .ty "str") (by rfl) T.m_str PyProof.Rows.boot_str rfl) pa_nil))) (pe_one (pe_cmpR (inK K) (pv 1) (fldK K (pv 0) rfl) rfl))))
      ), ?_⟩
    refine ⟨_, rfl, ?_⟩
    cases hv with
    | no ty hk => exact ⟨_, _, _, _, false, rfl, .ty _, ty, hk, false, rfl, iteN rfl k⟩
    | txt x =>
      refine ⟨_, _, _, _, true, rfl, .ty _, .base (.str _), kit_ty (by decide +kernel), true, rfl, iteT ?_⟩
      refine ⟨_, rfl, _, rfl, a, C, dx, _, _, rfl, r.ha, CH.cl, CH.nM, rl_marks, ?_⟩
      refine ⟨m, txs ms, rfl, .inr (SqT.of r.hm), rfl, flat_txs _, ?_⟩
      rw [inV_txs]
      exact k
end
end Toy
set_option maxHeartbeats 1000000
namespace UW
def sl (a b : List Nat) : Prop := a.length < b.length ∨ (a.length = b.length ∧ a < b)
theorem lex_snoc : ∀ {u v : List Nat} {d i : Nat}, u.length = v.length → u ++ [d] < v ++ [i] → u < v ∨ (u = v ∧ d < i)
  | [], [], d, i, _, h => by
    refine .inr ⟨rfl, ?_⟩
    rcases List.cons_lt_cons_iff.mp h with h | ⟨_, h⟩
    · exact h
    · exact absurd h (by simp)
  | a :: u, b :: v, d, i, hl, h => by
    rcases List.cons_lt_cons_iff.mp h with h1 | ⟨h1, h2⟩
    · exact .inl (List.cons_lt_cons_iff.mpr (.inl h1))
    · rcases lex_snoc (u := u) (v := v) (by simpa using hl) h2 with h3 | ⟨h3, h4⟩
      · exact .inl (List.cons_lt_cons_iff.mpr (.inr ⟨h1, h3⟩))
      · exact .inr ⟨by rw [h1, h3], h4⟩
  | [], b :: v, _, _, hl, _ => by simp at hl
  | a :: u, [], _, _, hl, _ => by simp at hl
theorem sl_snoc {u v : List Nat} {d i : Nat} (h : sl (u ++ [d]) (v ++ [i])) : sl u v ∨ (u = v ∧ d < i) := by
  rcases h with h | ⟨hl, h⟩
  · exact .inl (.inl (by simpa using h))
  · have hl' : u.length = v.length := by simpa using hl
    rcases lex_snoc hl' h with h | h
    · exact .inl (.inr ⟨hl', h⟩)
    · exact .inr h
theorem sl_irr {u : List Nat} : ¬ sl u u := fun h => by
  rcases h with h | ⟨_, h⟩
  · omega
  · exact List.lt_irrefl _ h
section
variable {α : Type} {lead : α → Nat → α} {m : Nat} {last : α → Prop} {b : α}
def run (lead : α → Nat → α) (b : α) (w : List Nat) : α := w.foldl lead b
theorem run_snoc (w : List Nat) (d : Nat) : run lead b (w ++ [d]) = lead (run lead b w) d := by unfold run; rw [List.foldl_append]; rfl
def Rw (m : Nat) (w : List Nat) : Prop := ∀ c ∈ w, c < m
structure St (lead : α → Nat → α) (m : Nat) (last : α → Prop) (b : α) (L : List (α × List Nat)) (k i : Nat) : Prop where
  zero : L[0]? = some (b, [])
  nd : (L.map (·.1)).Nodup
  row : ∀ (j : Nat) p, L[j]? = some p → run lead b p.2 = p.1 ∧ Rw m p.2
  done : ∀ (j : Nat) p d, L[j]? = some p → d < m → (j < k ∨ (j = k ∧ d < i)) → ∃ q ∈ L, q.1 = lead p.1 d
  least : ∀ (j : Nat) p w, L[j]? = some p → Rw m w → sl w p.2 → ∃ (h : Nat) (q : α × List Nat), h < j ∧ L[h]? = some q ∧ run lead b w = q.1
  notlast : ∀ (j : Nat) p, L[j]? = some p → j + 1 < L.length → ¬ last p.1
theorem St.init : St lead m last b [(b, [])] 0 0 where
  zero := rfl
  nd := by simp
  row := fun j p e => by
    rcases j with _ | j
    · cases e; exact ⟨rfl, fun _ h => nomatch h⟩
    · simp at e
  done := fun j p d e _ h => by omega
  least := fun j p w e _ h => by
    rcases j with _ | j
    · cases e
      rcases h with h | ⟨hl, h⟩
      · simp at h
      · exact absurd h (by simp)
    · simp at e
  notlast := fun j p e h => by simp at h
theorem St.next {L : List (α × List Nat)} {k : Nat} (h : St lead m last b L k m) : St lead m last b L (k + 1) 0 :=
  ⟨h.zero, h.nd, h.row, fun j p d e hd hj => h.done j p d e hd (by omega), h.least, h.notlast⟩
theorem St.old {L : List (α × List Nat)} {k i : Nat} (h : St lead m last b L k i) {p : α × List Nat} (hp : L[k]? = some p) (ho : ∃ q ∈ L, q.1 = lead p.1 i) : St lead m last b L k (i + 1) :=
  ⟨h.zero, h.nd, h.row, fun j q d e hd hj => by
    by_cases hjd : j = k ∧ d = i
    · obtain ⟨h1, h2⟩ := hjd
      rw [h1, hp] at e
      cases e
      rw [h2]
      exact ho
    · exact h.done j q d e hd (by omega), h.least, h.notlast⟩
theorem St.new {L : List (α × List Nat)} {k i : Nat} (h : St lead m last b L k i) {p : α × List Nat} (hp : L[k]? = some p) (hi : i < m) (hn : ∀ q ∈ L, q.1 ≠ lead p.1 i) (hl : ∀ q ∈ L, ¬ last q.1) : St lead m last b (L ++ [(lead p.1 i, p.2 ++ [i])]) k (i + 1) := by
  have hk : k < L.length := (List.getElem?_eq_some_iff.mp hp).1
  have up : ∀ {j : Nat} {q : α × List Nat}, L[j]? = some q → (L ++ [(lead p.1 i, p.2 ++ [i])])[j]? = some q := fun {j q} e => by
    rw [List.getElem?_append_left (List.getElem?_eq_some_iff.mp e).1]; exact e
  have dn : ∀ {j : Nat} {q : α × List Nat}, (L ++ [(lead p.1 i, p.2 ++ [i])])[j]? = some q → L[j]? = some q ∨ (j = L.length ∧ q = (lead p.1 i, p.2 ++ [i])) := fun {j q} e => by
    by_cases hj : j < L.length
    · rw [List.getElem?_append_left hj] at e; exact .inl e
    · rw [List.getElem?_append_right (by omega)] at e
      cases hz : j - L.length with
      | zero => rw [hz] at e; simp at e; exact .inr ⟨by omega, e.symm⟩
      | succ n => rw [hz] at e; simp at e
  refine ⟨up h.zero, ?_, fun j q e => ?_, fun j q d e hd hj => ?_, fun j q w e hw hs => ?_, fun j q e hj => ?_⟩
  · rw [List.map_append, List.nodup_append]
    refine ⟨h.nd, by simp, fun a ha c hc => ?_⟩
    obtain ⟨q, hq, rfl⟩ := List.mem_map.mp ha
    simp at hc
    rw [hc]
    exact hn q hq
  · rcases dn e with e | ⟨_, rfl⟩
    · exact h.row j q e
    · obtain ⟨h1, h2⟩ := h.row k p hp
      refine ⟨by rw [run_snoc, h1], fun c hc => ?_⟩
      rcases List.mem_append.mp hc with hc | hc
      · exact h2 c hc
      · rw [List.mem_singleton.mp hc]; exact hi
  · rcases dn e with e | ⟨rfl, rfl⟩
    · by_cases hjd : j = k ∧ d = i
      · obtain ⟨h1, h2⟩ := hjd
        rw [h1, hp] at e
        cases e
        rw [h2]
        exact ⟨_, List.mem_append_right _ List.mem_cons_self, rfl⟩
      · obtain ⟨r, hr, er⟩ := h.done j q d e hd (by omega)
        exact ⟨r, List.mem_append_left _ hr, er⟩
    · omega
  · rcases dn e with e | ⟨rfl, rfl⟩
    · obtain ⟨g, r, h1, h2, h3⟩ := h.least j q w e hw hs
      exact ⟨g, r, h1, up h2, h3⟩
    · have key : ∃ r ∈ L, run lead b w = r.1 := by
        rcases List.eq_nil_or_concat w with rfl | ⟨u, d, rfl⟩
        · exact ⟨_, List.mem_of_getElem? h.zero, rfl⟩
        · rw [List.concat_eq_append] at hs hw ⊢
          have hu : Rw m u := fun c hc => hw c (List.mem_append_left _ hc)
          have hd : d < m := hw d (List.mem_append_right _ List.mem_cons_self)
          rcases sl_snoc hs with hs | ⟨rfl, hdi⟩
          · obtain ⟨g, r, h1, h2, h3⟩ := h.least k p u hp hu hs
            obtain ⟨z, hz, ez⟩ := h.done g r d h2 hd (.inl h1)
            exact ⟨z, hz, by rw [run_snoc, h3]; exact ez.symm⟩
          · obtain ⟨z, hz, ez⟩ := h.done k p d hp hd (.inr ⟨rfl, hdi⟩)
            exact ⟨z, hz, by rw [run_snoc, (h.row k p hp).1]; exact ez.symm⟩
      obtain ⟨r, hr, er⟩ := key
      obtain ⟨g, hg⟩ := List.getElem?_of_mem hr
      exact ⟨g, r, (List.getElem?_eq_some_iff.mp hg).1, up hg, er⟩
  · rcases dn e with e | ⟨rfl, rfl⟩
    · exact hl q (List.mem_of_getElem? e)
    · simp at hj
theorem St.found {L : List (α × List Nat)} {k i : Nat} (h : St lead m last b L k i) {p : α × List Nat} (hp : L[L.length - 1]? = some p) : ∀ w, Rw m w → last (run lead b w) → ¬ sl w p.2 := fun w hw hlast hs => by
  obtain ⟨g, r, h1, h2, h3⟩ := h.least _ p w hp hw hs
  rw [h3] at hlast
  exact h.notlast g r h2 (by omega) hlast
theorem St.none {L : List (α × List Nat)} {k : Nat} (h : St lead m last b L k 0) (hk : L.length ≤ k) (hl : ∀ q ∈ L, ¬ last q.1) : ∀ w, Rw m w → ¬ last (run lead b w) := by
  have all : ∀ w, Rw m w → ∃ q ∈ L, run lead b w = q.1 := by
    intro w
    induction hn : w.length generalizing w with
    | zero => intro _; rw [List.length_eq_zero_iff.mp hn]; exact ⟨_, List.mem_of_getElem? h.zero, rfl⟩
    | succ n ih =>
      intro hw
      rcases List.eq_nil_or_concat w with rfl | ⟨u, d, rfl⟩
      · simp at hn
      · rw [List.concat_eq_append] at hn hw ⊢
        obtain ⟨q, hq, e⟩ := ih u (by simpa using hn) fun c hc => hw c (List.mem_append_left _ hc)
        obtain ⟨j, hj⟩ := List.getElem?_of_mem hq
        have hjl := (List.getElem?_eq_some_iff.mp hj).1
        obtain ⟨z, hz, ez⟩ := h.done j q d hj (hw d (List.mem_append_right _ List.mem_cons_self)) (.inl (by omega))
        exact ⟨z, hz, by rw [run_snoc, e]; exact ez.symm⟩
  intro w hw hlast
  obtain ⟨q, hq, e⟩ := all w hw
  rw [e] at hlast
  exact hl q hq hlast
end
end UW
set_option maxHeartbeats 1000000
namespace UW
section
variable {flag : Nat → Bool} {lead : Nat → Nat → Nat} {m n : Nat}
def Eb (flag : Nat → Bool) (lead : Nat → Nat → Nat) (m : Nat) : Nat → Nat → Nat → Bool
  | 0, i, j => flag i == flag j
  | k + 1, i, j => Eb flag lead m k i j && (List.range m).all fun c => Eb flag lead m k (lead i c) (lead j c)
theorem eb_succ {k i j : Nat} : Eb flag lead m (k + 1) i j = true ↔ Eb flag lead m k i j = true ∧ ∀ c, c < m → Eb flag lead m k (lead i c) (lead j c) = true := by
  show (Eb flag lead m k i j && (List.range m).all fun c => Eb flag lead m k (lead i c) (lead j c)) = true ↔ _
  rw [Bool.and_eq_true, List.all_eq_true]
  exact and_congr_right fun _ => ⟨fun h c hc => h c (List.mem_range.mpr hc), fun h c hc => h c (List.mem_range.mp hc)⟩
theorem eb_zero {k i j : Nat} (h : Eb flag lead m k i j = true) : flag i = flag j := by
  induction k with
  | zero => exact eq_of_beq h
  | succ k ih => exact ih (eb_succ.mp h).1
theorem eb_refl (k i : Nat) : Eb flag lead m k i i = true := by
  induction k generalizing i with
  | zero => exact beq_self_eq_true _
  | succ k ih => exact eb_succ.mpr ⟨ih i, fun c _ => ih _⟩
theorem eb_symm {k i j : Nat} (h : Eb flag lead m k i j = true) : Eb flag lead m k j i = true := by
  induction k generalizing i j with
  | zero => exact beq_iff_eq.mpr (eq_of_beq h).symm
  | succ k ih => exact eb_succ.mpr ⟨ih (eb_succ.mp h).1, fun c hc => ih ((eb_succ.mp h).2 c hc)⟩
theorem eb_trans {k i j l : Nat} (h : Eb flag lead m k i j = true) (g : Eb flag lead m k j l = true) : Eb flag lead m k i l = true := by
  induction k generalizing i j l with
  | zero => exact beq_iff_eq.mpr ((eq_of_beq h).trans (eq_of_beq g))
  | succ k ih => exact eb_succ.mpr ⟨ih (eb_succ.mp h).1 (eb_succ.mp g).1, fun c hc => ih ((eb_succ.mp h).2 c hc) ((eb_succ.mp g).2 c hc)⟩
theorem eb_row {k i j : Nat} : Eb flag lead m k i j = true ↔ ∀ w, Rw m w → w.length ≤ k → flag (run lead i w) = flag (run lead j w) := by
  induction k generalizing i j with
  | zero =>
    constructor
    · intro h w _ hl
      rw [List.length_eq_zero_iff.mp (Nat.le_zero.mp hl)]
      exact eq_of_beq h
    · intro h
      exact beq_iff_eq.mpr (h [] (fun _ h => nomatch h) (Nat.zero_le _))
  | succ k ih =>
    rw [eb_succ]
    constructor
    · rintro ⟨h1, h2⟩ w hw hl
      cases w with
      | nil => exact eb_zero h1
      | cons c u => exact ih.mp (h2 c (hw c List.mem_cons_self)) u (fun d hd => hw d (List.mem_cons_of_mem _ hd)) (by simpa using hl)
    · intro h
      refine ⟨ih.mpr fun w hw hl => h w hw (by omega), fun c hc => ih.mpr fun w hw hl => h (c :: w) (fun d hd => ?_) (by simpa using hl)⟩
      rcases List.mem_cons.mp hd with rfl | hd
      · exact hc
      · exact hw d hd
theorem eb_le {k l i j : Nat} (hkl : k ≤ l) (h : Eb flag lead m l i j = true) : Eb flag lead m k i j = true := eb_row.mpr fun w hw hl => eb_row.mp h w hw (by omega)
def Stb (flag : Nat → Bool) (lead : Nat → Nat → Nat) (m n k : Nat) : Prop := ∀ i j, i < n → j < n → Eb flag lead m k i j = true → Eb flag lead m (k + 1) i j = true
theorem stb_all (hl : ∀ i c, i < n → c < m → lead i c < n) {k : Nat} (h : Stb flag lead m n k) : ∀ t i j, i < n → j < n → Eb flag lead m k i j = true → Eb flag lead m (k + t) i j = true := by
  intro t
  induction t with
  | zero => intro i j _ _ e; exact e
  | succ t ih =>
    intro i j hi hj e
    exact eb_succ.mpr ⟨ih i j hi hj e, fun c hc => ih _ _ (hl i c hi hc) (hl j c hj hc) ((eb_succ.mp (h i j hi hj e)).2 c hc)⟩
def reps (flag : Nat → Bool) (lead : Nat → Nat → Nat) (m n k : Nat) : List Nat := (List.range n).filter fun i => (List.range i).all fun j => !Eb flag lead m k j i
theorem mem_reps {k i : Nat} : i ∈ reps flag lead m n k ↔ i < n ∧ ∀ j, j < i → Eb flag lead m k j i = false := by
  unfold reps
  rw [List.mem_filter, List.mem_range, List.all_eq_true]
  refine and_congr_right fun _ => ⟨fun h j hj => ?_, fun h j hj => ?_⟩
  · have := h j (List.mem_range.mpr hj); simpa using this
  · rw [h j (List.mem_range.mp hj)]; rfl
theorem filter_sub {α : Type} {p q : α → Bool} (h : ∀ a, p a = true → q a = true) : ∀ l : List α, (l.filter p).Sublist (l.filter q)
  | [] => .slnil
  | a :: l => by
    cases e : p a with
    | true => rw [List.filter_cons_of_pos e, List.filter_cons_of_pos (h a e)]; exact (filter_sub h l).cons₂ a
    | false =>
      rw [List.filter_cons_of_neg (by rw [e]; exact Bool.false_ne_true)]
      cases e2 : q a with
      | true => rw [List.filter_cons_of_pos e2]; exact (filter_sub h l).cons a
      | false => rw [List.filter_cons_of_neg (by rw [e2]; exact Bool.false_ne_true)]; exact filter_sub h l
theorem reps_sub (k : Nat) : (reps flag lead m n k).Sublist (reps flag lead m n (k + 1)) := by
  unfold reps
  refine filter_sub (fun i h => ?_) _
  rw [List.all_eq_true] at h ⊢
  intro j hj
  have := h j hj
  rw [Bool.not_eq_true'] at this ⊢
  cases e : Eb flag lead m (k + 1) j i with
  | false => rfl
  | true => rw [eb_le (Nat.le_succ k) e] at this; exact this
theorem has_rep (k : Nat) : ∀ i, i < n → ∃ r ∈ reps flag lead m n k, Eb flag lead m k r i = true := by
  intro i
  induction i using Nat.strongRecOn with
  | _ i ih =>
    intro hi
    by_cases h : i ∈ reps flag lead m n k
    · exact ⟨i, h, eb_refl k i⟩
    · rw [mem_reps] at h
      have : ∃ j, j < i ∧ Eb flag lead m k j i = true := by
        apply Classical.byContradiction
        intro hc
        refine h ⟨hi, fun j hj => ?_⟩
        cases e : Eb flag lead m k j i with
        | false => rfl
        | true => exact absurd ⟨j, hj, e⟩ hc
      obtain ⟨j, hj, e⟩ := this
      obtain ⟨r, hr, er⟩ := ih j hj (by omega)
      exact ⟨r, hr, eb_trans er e⟩
theorem rep_uniq {k r s : Nat} (hr : r ∈ reps flag lead m n k) (hs : s ∈ reps flag lead m n k) (h : Eb flag lead m k r s = true) : r = s := by
  rcases Nat.lt_trichotomy r s with l | l | l
  · rw [(mem_reps.mp hs).2 r l] at h; cases h
  · exact l
  · have := eb_symm h
    rw [(mem_reps.mp hr).2 s l] at this; cases this
theorem stb_of {k : Nat} (h : (reps flag lead m n k).length = (reps flag lead m n (k + 1)).length) : Stb flag lead m n k := by
  have e := (reps_sub (flag := flag) (lead := lead) (m := m) (n := n) k).eq_of_length h
  intro i j hi hj hij
  obtain ⟨r, hr, er⟩ := has_rep (flag := flag) (lead := lead) (m := m) (k + 1) i hi
  obtain ⟨s, hs, es⟩ := has_rep (flag := flag) (lead := lead) (m := m) (k + 1) j hj
  rw [← e] at hr hs
  have : r = s := rep_uniq hr hs (eb_trans (eb_le (Nat.le_succ k) er) (eb_trans hij (eb_symm (eb_le (Nat.le_succ k) es))))
  subst this
  exact eb_trans (eb_symm er) es
theorem reps_le (k : Nat) : (reps flag lead m n k).length ≤ n := by
  have := List.length_filter_le (fun i => (List.range i).all fun j => !Eb flag lead m k j i) (List.range n)
  rw [List.length_range] at this
  exact this
theorem reps_pos (k : Nat) (h : 0 < n) : 0 < (reps flag lead m n k).length := List.length_pos_of_mem (mem_reps.mpr ⟨h, fun j hj => by omega⟩)
theorem three (hl : ∀ i c, i < n → c < m → lead i c < n) (hn : n ≤ 4) {i j : Nat} (hi : i < n) (hj : j < n) (h : Eb flag lead m 3 i j = true) : ∀ w, Rw m w → flag (run lead i w) = flag (run lead j w) := by
  have key : ∃ k, k ≤ 3 ∧ Stb flag lead m n k := by
    apply Classical.byContradiction
    intro hc
    have up : ∀ k, k ≤ 3 → (reps flag lead m n k).length < (reps flag lead m n (k + 1)).length := fun k hk => by
      rcases Nat.lt_or_ge (reps flag lead m n k).length (reps flag lead m n (k + 1)).length with l | l
      · exact l
      · exact absurd ⟨k, hk, stb_of (Nat.le_antisymm (reps_sub k).length_le l)⟩ hc
    have h0 := reps_pos (flag := flag) (lead := lead) (m := m) 0 (show 0 < n by omega)
    have h1 : (reps flag lead m n 0).length < (reps flag lead m n 1).length := up 0 (by omega)
    have h2 : (reps flag lead m n 1).length < (reps flag lead m n 2).length := up 1 (by omega)
    have h3 : (reps flag lead m n 2).length < (reps flag lead m n 3).length := up 2 (by omega)
    have h4 : (reps flag lead m n 3).length < (reps flag lead m n 4).length := up 3 (by omega)
    have h5 := reps_le (flag := flag) (lead := lead) (m := m) (n := n) 4
    omega
  obtain ⟨k, hk, st⟩ := key
  intro w hw
  exact eb_row.mp (stb_all hl st w.length i j hi hj (eb_le hk h)) w hw (by omega)
end
end UW
set_option maxHeartbeats 1000000
namespace UW
section
variable {α : Type} [DecidableEq α]
theorem sub_len : ∀ (U l : List α), l.Nodup → (∀ x ∈ l, x ∈ U) → l.length ≤ U.length := by
  intro U
  induction U with
  | nil =>
    intro l _ h
    cases l with
    | nil => exact Nat.le_refl _
    | cons a l => exact absurd (h a List.mem_cons_self) (by intro z; cases z)
  | cons u U ih =>
    intro l nd h
    have := ih (l.erase u) (nd.erase u) fun x hx => by
      have h1 := (nd.mem_erase_iff).mp hx
      rcases List.mem_cons.mp (h x h1.2) with z | z
      · exact absurd z h1.1
      · exact z
    have e := List.length_erase (a := u) (l := l)
    rw [List.length_cons]
    split at e <;> omega
theorem same_len {l1 l2 : List α} (n1 : l1.Nodup) (n2 : l2.Nodup) (h : ∀ x, x ∈ l1 ↔ x ∈ l2) : l1.length = l2.length :=
  Nat.le_antisymm (sub_len l2 l1 n1 fun x hx => (h x).mp hx) (sub_len l1 l2 n2 fun x hx => (h x).mpr hx)
def ins (acc : List α) (x : α) : List α := if x ∈ acc then acc else acc ++ [x]
def firsts (xs : List α) : List α := xs.foldl ins []
theorem ins_mem {acc : List α} {x y : α} : y ∈ ins acc x ↔ y ∈ acc ∨ y = x := by
  unfold ins
  split
  · rename_i h
    exact ⟨.inl, fun k => k.elim id fun e => e ▸ h⟩
  · rw [List.mem_append, List.mem_singleton]
theorem ins_nodup {acc : List α} {x : α} (h : acc.Nodup) : (ins acc x).Nodup := by
  unfold ins
  split
  · exact h
  · rename_i hn
    rw [List.nodup_append]
    exact ⟨h, by simp, fun a ha b hb e => hn (by rw [List.mem_singleton] at hb; rw [← hb, ← e]; exact ha)⟩
theorem firsts_snoc (xs : List α) (x : α) : firsts (xs ++ [x]) = ins (firsts xs) x := by unfold firsts; rw [List.foldl_append]; rfl
theorem fold_mem (xs : List α) : ∀ (acc : List α) (y : α), y ∈ xs.foldl ins acc ↔ y ∈ acc ∨ y ∈ xs := by
  induction xs with
  | nil => intro acc y; simp
  | cons x xs ih =>
    intro acc y
    rw [List.foldl_cons, ih, ins_mem, List.mem_cons]
    exact ⟨fun h => h.elim (fun h => h.elim .inl fun e => .inr (.inl e)) fun h => .inr (.inr h), fun h => h.elim (fun h => .inl (.inl h)) fun h => h.elim (fun e => .inl (.inr e)) .inr⟩
theorem fold_nodup (xs : List α) : ∀ (acc : List α), acc.Nodup → (xs.foldl ins acc).Nodup := by
  induction xs with
  | nil => intro acc h; exact h
  | cons x xs ih => intro acc h; exact ih _ (ins_nodup h)
theorem firsts_mem {xs : List α} {y : α} : y ∈ firsts xs ↔ y ∈ xs := by unfold firsts; rw [fold_mem]; simp
theorem firsts_nodup (xs : List α) : (firsts xs).Nodup := fold_nodup xs [] List.nodup_nil
def num (xs : List α) : List Nat := xs.map fun x => (firsts xs).idxOf x
theorem num_len (xs : List α) : (num xs).length = xs.length := by unfold num; rw [List.length_map]
theorem idx_inj {l : List α} {x y : α} (hx : x ∈ l) (h : l.idxOf x = l.idxOf y) : x = y := by
  have h1 := List.idxOf_lt_length_of_mem hx
  have e1 : l[l.idxOf x]? = some x := by rw [List.getElem?_eq_getElem h1, List.getElem_idxOf]
  have h2 : l.idxOf y < l.length := by rw [← h]; exact h1
  have e2 : l[l.idxOf y]? = some y := by rw [List.getElem?_eq_getElem h2, List.getElem_idxOf]
  rw [h, e2] at e1
  exact (Option.some.inj e1).symm
theorem num_eq {xs : List α} {i j : Nat} {x y : α} (hi : xs[i]? = some x) (hj : xs[j]? = some y) : (num xs)[i]? = (num xs)[j]? ↔ x = y := by
  unfold num
  rw [List.getElem?_map, List.getElem?_map, hi, hj]
  constructor
  · intro h
    exact idx_inj (firsts_mem.mpr (List.mem_of_getElem? hi)) (Option.some.inj h)
  · intro h; rw [h]
theorem num_lt {xs : List α} {k : Nat} (h : k ∈ num xs) : k < (firsts xs).length := by
  obtain ⟨x, hx, rfl⟩ := List.mem_map.mp h
  exact List.idxOf_lt_length_of_mem (firsts_mem.mpr hx)
theorem num_all {xs : List α} {k : Nat} (h : k < (firsts xs).length) : k ∈ num xs := by
  refine List.mem_map.mpr ⟨(firsts xs)[k], firsts_mem.mp (List.getElem_mem h), ?_⟩
  exact (firsts_nodup xs).idxOf_getElem k h
end
section
variable {α : Type} [DecidableEq α] {flag : Nat → Bool} {lead : Nat → Nat → Nat} {m n : Nat}
theorem firsts_reps {xs : List α} {k : Nat} (hn : xs.length = n) (h : ∀ i j x y, xs[i]? = some x → xs[j]? = some y → (x = y ↔ Eb flag lead m k i j = true)) : (firsts xs).length = (reps flag lead m n k).length := by
  have hget : ∀ i ∈ reps flag lead m n k, ∃ x, xs[i]? = some x := fun i hi => ⟨_, List.getElem?_eq_getElem (by rw [hn]; exact (mem_reps.mp hi).1)⟩
  have key : ∀ l : List Nat, l.Nodup → (∀ i ∈ l, i ∈ reps flag lead m n k) → (l.filterMap fun i => xs[i]?).Nodup ∧ (l.filterMap fun i => xs[i]?).length = l.length := by
    intro l
    induction l with
    | nil => intro _ _; exact ⟨List.nodup_nil, rfl⟩
    | cons i l ih =>
      intro nd hl
      rw [List.nodup_cons] at nd
      obtain ⟨h1, h2⟩ := ih nd.2 fun j hj => hl j (List.mem_cons_of_mem _ hj)
      obtain ⟨x, hx⟩ := hget i (hl i List.mem_cons_self)
      rw [List.filterMap_cons, hx]
      refine ⟨List.nodup_cons.mpr ⟨fun hm => ?_, h1⟩, by rw [List.length_cons, List.length_cons, h2]⟩
      obtain ⟨j, hj, e⟩ := List.mem_filterMap.mp hm
      have := rep_uniq (hl i List.mem_cons_self) (hl j (List.mem_cons_of_mem _ hj)) ((h i j x x hx e).mp rfl)
      exact nd.1 (by rw [this]; exact hj)
  have ndr : (reps flag lead m n k).Nodup := by unfold reps; exact List.nodup_range.filter _
  obtain ⟨k1, k2⟩ := key _ ndr fun i hi => hi
  rw [← k2]
  refine same_len (firsts_nodup xs) k1 fun y => ?_
  rw [firsts_mem, List.mem_filterMap]
  constructor
  · intro hy
    obtain ⟨i, hi⟩ := List.getElem?_of_mem hy
    have hin : i < n := by rw [← hn]; exact (List.getElem?_eq_some_iff.mp hi).1
    obtain ⟨r, hr, er⟩ := has_rep (flag := flag) (lead := lead) (m := m) k i hin
    obtain ⟨x, hx⟩ := hget r hr
    have := (h r i x y hx hi).mpr er
    exact ⟨r, hr, by rw [hx, this]⟩
  · rintro ⟨i, _, e⟩
    exact List.mem_of_getElem? e
theorem next_eq {g : List Nat} {k : Nat} (hg : g.length = n) (hl : ∀ i c, i < n → c < m → lead i c < n) (h : ∀ i j, i < n → j < n → (g.getD i 0 = g.getD j 0 ↔ Eb flag lead m k i j = true)) (i j : Nat) (hi : i < n) (hj : j < n) :
    ((g.getD i 0, (List.range m).map fun c => g.getD (lead i c) 0) = (g.getD j 0, (List.range m).map fun c => g.getD (lead j c) 0)) ↔ Eb flag lead m (k + 1) i j = true := by
  rw [eb_succ, Prod.mk.injEq]
  constructor
  · rintro ⟨h1, h2⟩
    refine ⟨(h i j hi hj).mp h1, fun c hc => (h _ _ (hl i c hi hc) (hl j c hj hc)).mp ?_⟩
    have := congrArg (fun l : List Nat => l[c]?) h2
    simpa [hc] using this
  · rintro ⟨h1, h2⟩
    refine ⟨(h i j hi hj).mpr h1, List.map_congr_left fun c hc => (h _ _ (hl i c hi (List.mem_range.mp hc)) (hl j c hj (List.mem_range.mp hc))).mpr (h2 c (List.mem_range.mp hc))⟩
end
end UW
set_option maxHeartbeats 4000000
namespace Toy
open PySem L2 C8 SX LX
section
variable {P : Program} {w : World} {K : PySem.W.Frag} {mg : Str → Option Value} {base : Heap}
def leadT (sg : List Nat) (ms : List (List Nat)) (tg : List Nat → Nat → List Nat) (t i : Nat) : Nat := ms.idxOf (tg (ms.getD t []) (sg.getD i 0))
def flV (fl : Nat → Bool) (n : Nat) : List V := (List.range n).map fun i => V.bl (fl i)
abbrev s_flags : Stmt := top 30
abbrev n_flags : List Str := ["reader", "lot", "mark"]
theorem sc_flags : FnScope n_flags ["reader", "lot"] (fnScope s_flags) := fnScope_by (by decide +kernel)
def flO (ms ls : List (List Nat)) (i : Nat) : Bool := decide (ms.getD i [] ∈ ls)
def spFlags (K : PySem.W.Frag) (C : Addr) : Sp := fun vs H Q _ => ∃ (a q : Addr) (bb : Bool) (sg : List Nat) (ms : List (List Nat)) (f : List Nat) (tg : List Nat → Nat → List Nat) (ls : List (List Nat)), vs = [.ref a, .ref q] ∧ Rdr C H a sg ms f tg ∧ Good sg ms f tg ∧ SqB K bb H q (txs ls) ∧
  ∀ (D : Addr) (H' : Hp), Same H H' → H D = none → H' D = some (.lst (flV (flO ms ls) ms.length)) → Q (.ref D) H'
theorem ok_flags {C : Addr} (T : BT mg) (CH : CR K C) {f : Addr} {fd : FuncData} (F : Def K mg "flags_of" s_flags f fd) (b : Binds K fd ["reader", "lot"] []) : Cal P w K mg base 1 "flags_of" (spFlags K C) [] := by
  refine cal0 F b .nil sc_flags (fun vs H Q E h => ?_) (fun cdv A outer s H vs Q E hr h => ?_)
  · obtain ⟨a, q, _, _, _, _, _, _, rfl, _⟩ := h; rfl
  · obtain ⟨a, q, bb, sg, ms, f, tg, ls, rfl, hrd, hgd, hq, k⟩ := h
    obtain ⟨dx, m, st, nu, le, sa, la, co, ca, r, hcol⟩ := id hrd
    refine ⟨_, (pss_one (ps_ret (pe_lc (own := [("mark", 2)]) rfl sc_flags.nd (pi_tup (fldK K (pv 0) rfl)) (blkOk_by (N := n_flags) (sc := fnScope s_flags) (by decide +kernel)) (fun _ _ _ _ _ => (pg_name (i := 2) sc_flags.nd rfl (.inl rfl))) (fun _ _ _ _ _ => pts_nil) (fun _ _ _ _ _ => (pe_cmpR (inK K) (pv 2) (pv 1) rfl))))
      ), ?_⟩
    refine ⟨_, rfl, a, C, dx, _, _, rfl, r.ha, CH.cl, CH.nM, rl_marks, m, rfl, ⟨_, SqT.of r.hm⟩, fun D hD => ?_⟩
    have h8 := hgd.h8
    refine lc_keep keep_same (walk_tup (K := K) (a := m) (xs := txs ms)) hD (by rw [txs_len]; exact small1000 (by omega)) (fun j y => y = .bl (flO ms ls j)) (fun H r' => SqT.of (r' _ _ r.hm)) (fun i x H2 H3 R hi r' hy hR => ?_) (fun ys H2 hly hg r' hDs => ?_)
    · obtain ⟨rfl, ex⟩ := hy
      obtain ⟨mm, hm, rfl⟩ := txs_get ex
      refine ⟨rfl, ?_⟩
      refine ⟨_, rfl, _, rfl, q, txs ls, rfl, ((hq.same r')).or, rfl, flat_txs _, ?_⟩
      rw [inV_txs]
      refine hR _ _ (Same.refl _) ?_
      unfold flO
      rw [getD_of hm]; rfl
    · have ey : ys = flV (flO ms ls) ms.length := by
        rw [txs_len] at hly
        exact list_of hly hg
      subst ey
      exact k D H2 r' hD hDs
inductive LotY (K : PySem.W.Frag) (H : Hp) : V → Option (List (Option (List Nat))) → Prop
  | no {v : V} {t : Value} (ty : TyX K H v t) (h : PySem.W.kitAny K t [.type "list", .type "tuple"] = some false) : LotY K H v none
  | seq {p : Addr} {b : Bool} {xs : List V} {os : List (Option (List Nat))} (h : SqB K b H p xs) (hl : xs.length = os.length) (h60 : os.length < 60) (hk : ∀ (i : Nat) x o, xs[i]? = some x → os[i]? = some o → Kv K H x o) (hn : b = true ∨ ∀ ls : List (List Nat), os = ls.map some → ls.Nodup) : LotY K H (.ref p) (some os)
theorem LotY.same {K : PySem.W.Frag} {H H' : Hp} {v : V} {o : Option (List (Option (List Nat)))} (h : LotY K H v o) (s : Same H H') : LotY K H' v o := by
  cases h with
  | no ty h => exact .no (ty_same s ty) h
  | seq h hl h60 hk hn => exact .seq (h.same s) hl h60 (fun i x o e1 e2 => kv_same s (hk i x o e1 e2)) hn
def LotOk (ms : List (List Nat)) (o : Option (List (Option (List Nat)))) (ls : List (List Nat)) : Prop := o = some (ls.map some) ∧ (∀ l ∈ ls, l ∈ ms) ∧ ls.Nodup
abbrev s_islot : Stmt := top 28
abbrev n_islot : List Str := ["reader", "value", "mark"]
theorem sc_islot : FnScope n_islot ["reader", "value"] (fnScope s_islot) := fnScope_by (by decide +kernel)
def spIsLot (K : PySem.W.Frag) (C : Addr) : Sp := fun vs H Q _ => ∃ (a : Addr) (v : V) (sg : List Nat) (ms : List (List Nat)) (f : List Nat) (tg : List Nat → Nat → List Nat) (o : Option (List (Option (List Nat)))), vs = [.ref a, v] ∧ Rdr C H a sg ms f tg ∧ LotY K H v o ∧
  ∀ (b : Bool) (H' : Hp), (b = true ↔ ∃ ls, LotOk ms o ls) → Same H H' → Q (.bl b) H'
theorem cnt_nodup : ∀ {xs : List Str} {n : Nat}, n ≤ xs.length → (xs.take n).Nodup → cntT xs n = n := by
  intro xs n
  induction n with
  | zero => intro _ _; rfl
  | succ n ih =>
    intro hn nd
    have hx : xs[n]? = some xs[n] := List.getElem?_eq_getElem (by omega)
    rw [take_more hx, List.nodup_append] at nd
    rw [← cntT_succ hx, ih (by omega) nd.1, if_neg]
    intro h
    exact nd.2.2 _ (of_decide_eq_true h) _ List.mem_cons_self rfl
theorem cnt_eq : ∀ {xs : List Str} {n : Nat}, n ≤ xs.length → cntT xs n = n → (xs.take n).Nodup := by
  intro xs n
  induction n with
  | zero => intro _ _; simp
  | succ n ih =>
    intro hn e
    have hx : xs[n]? = some xs[n] := List.getElem?_eq_getElem (by omega)
    rw [← cntT_succ hx] at e
    have hle := cntT_le xs n
    by_cases h : xs[n] ∈ xs.take n
    · rw [if_pos (decide_eq_true h)] at e; omega
    · rw [if_neg (by rw [decide_eq_false h]; exact Bool.false_ne_true)] at e
      rw [take_more hx, List.nodup_append]
      refine ⟨ih (by omega) (by omega), by simp, fun a ha b hb e => ?_⟩
      rw [List.mem_singleton] at hb
      subst hb; subst e
      exact h ha
theorem lot_texts {K : PySem.W.Frag} {H : Hp} {ms : List (List Nat)} : ∀ {xs : List V} {os : List (Option (List Nat))}, xs.length = os.length → (∀ (i : Nat) x o, xs[i]? = some x → os[i]? = some o → Kv K H x o) → (∀ o ∈ os, markO ms o = true) → ∃ ls, os = ls.map some ∧ xs = txs ls ∧ ∀ l ∈ ls, l ∈ ms
  | [], [], _, _, _ => ⟨[], rfl, rfl, fun _ h => nomatch h⟩
  | x :: xs, o :: os, hl, hk, hm => by
    obtain ⟨ls, e1, e2, e3⟩ := lot_texts (xs := xs) (os := os) (by simpa using hl) (fun i x o h1 h2 => hk (i + 1) x o h1 h2) fun o ho => hm o (List.mem_cons_of_mem _ ho)
    have h0 := hk 0 x o rfl rfl
    have m0 := hm o List.mem_cons_self
    cases h0 with
    | no _ _ => cases m0
    | txt l =>
      refine ⟨l :: ls, by rw [e1]; rfl, by rw [e2]; rfl, fun z hz => ?_⟩
      rcases List.mem_cons.mp hz with rfl | hz
      · exact of_decide_eq_true m0
      · exact e3 z hz
  | [], _ :: _, hl, _, _ => by simp at hl
  | _ :: _, [], hl, _, _ => by simp at hl
theorem nodup_S' {xs : List (List Nat)} : (xs.map S).Nodup ↔ xs.Nodup := by
  constructor
  · intro h; exact h.of_map S fun a b n e => n (by rw [e])
  · exact nodup_S
theorem ok_islot {C : Addr} (T : BT mg) (CH : CR K C) (c_isseq : Cal P w K mg base 1 "is_sequence" (spIsSeqY K) []) (c_ismark : Cal P w K mg base 1 "is_mark" (spIsMarkD K C) []) {f : Addr} {fd : FuncData} (F : Def K mg "is_lot" s_islot f fd) (b : Binds K fd ["reader", "value"] []) : Cal P w K mg base 2 "is_lot" (spIsLot K C) [] := by
  refine cal0 F b .nil sc_islot (fun vs H Q E h => ?_) (fun cdv A outer s H vs Q E hr h => ?_)
  · obtain ⟨a, v, _, _, _, _, _, rfl, _⟩ := h; rfl
  · obtain ⟨a, v, sg, ms, f, tg, o, rfl, hrd, hv, k⟩ := h
    refine ⟨_, (pss_cons (ps_if (PW.pt (pw_or (pt_not (pt_val (pe_c c_isseq hr (by first | decide | omega) (by rfl) (pa_cons (pv 1) pa_nil)))) (pw_or1 (pt_not (pt_val (pe_callB (cr_all rfl) (by rfl) T.m_all PyProof.Rows.boot_all (pa_cons (pe_lc (own := [("mark", 2)]) rfl sc_islot.nd (pi_seq (pv 1)) (blkOk_by (N := n_islot) (sc := fnScope s_islot) (by decide +kernel)) (fun _ _ _ _ _ => (pg_name (i := 2) sc_islot.nd rfl (.inl rfl))) (fun _ _ _ _ _ => pts_nil) (fun _ _ _ _ _ => (pe_c c_ismark hr (by first | decide | omega) (by rfl) (pa_cons (pv 0) (pa_cons (pv 2) pa_nil))))) pa_nil))))))) 
        (pss_one (ps_ret pe_bl)
        )
       pss_nil)
      (pss_one (ps_ret (pe_cmpR op_eq (pe_orE (pe_lenSetT rfl (by rfl) T.m_len (by rfl) T.m_set (pv 1)) (pe_lenSetG rfl (by rfl) T.m_len (by rfl) T.m_set (pv 1))) (pe_callB (lenK K) (by rfl) T.m_len PySem.boot_len (pa_cons (pv 1) pa_nil)) (nomark _)))
      )), ?_⟩
    cases hv with
    | no ty hk =>
      refine ⟨_, rfl, v, _, false, rfl, fun H' s' => ty_same s' ty, hk, fun H' s' => ?_⟩
      refine ⟨_, rfl, iteB rfl (k false H' ⟨fun h => (nomatch h), fun ⟨ls, h, _⟩ => by cases h⟩ s')⟩
    | @seq p b xs os h hl h60 hk hn =>
      have hty2 : ∃ t, (∀ H', Same H H' → TyX K H' (.ref p) t) ∧ PySem.W.kitAny K t [.type "list", .type "tuple"] = some true := by
        cases b with
        | true => exact ⟨_, fun H' s' => ty_seqL (h.same s'), kit_list⟩
        | false => exact ⟨_, fun H' s' => ty_seqT (h.same s'), kit_tuple⟩
      obtain ⟨t, ht1, ht2⟩ := hty2
      refine ⟨_, rfl, .ref p, t, true, rfl, ht1, ht2, fun H1 s1 => ?_⟩
      refine ⟨_, rfl, iteN rfl ?_⟩
      have hq1 := h.same s1
      refine ⟨_, rfl, p, b, xs, rfl, hq1, fun D hD => lc_keep keep_same (walk_seq (K := K) (b := b) (a := p) (xs := xs)) hD (by rw [hl]; exact small1000 (by omega)) (fun j y => ∀ x, os[j]? = some x → y = .bl (markO ms x)) (fun H2 r => hq1.same r) (fun i x H2 H3 R hii r1 hy hR => ?_) (fun ys H2 hly hg r1 hDs => ?_)⟩
      · obtain ⟨rfl, e⟩ := hy
        have hio : i < os.length := by rw [← hl]; exact hii
        have eo : os[i]? = some os[i] := List.getElem?_eq_getElem hio
        refine ⟨rfl, ?_⟩
        refine ⟨_, rfl, _, rfl, a, sg, ms, f, tg, x, os[i], rfl, hrd.same (s1.trans r1), kv_same (s1.trans r1) (hk i x _ e eo), ?_⟩
        exact hR _ _ (Same.refl _) fun z hz => by rw [eo] at hz; cases hz; rfl
      · have eb : ys = (os.map fun x => markO ms x).map V.bl := by
          rw [List.map_map]
          refine list_map (hly.trans hl) fun j y x e1 e2 => hg j y e1 x e2
        refine ⟨D, os.map fun x => markO ms x, rfl, SqL.of (by rw [← eb]; exact hDs), ?_⟩
        have hq2 := hq1.same r1
        have s2 := s1.trans r1
        cases ea : (os.map fun x => markO ms x).all id with
        | false =>
          refine ⟨_, rfl, iteB rfl ?_⟩
          refine k false H2 ⟨fun h => (nomatch h), fun ⟨ls, h1, h2, _⟩ => ?_⟩ s2
          have h1 := Option.some.inj h1
          rw [List.all_eq_false] at ea
          obtain ⟨bb, hb, hn⟩ := ea
          obtain ⟨x, hx, rfl⟩ := List.mem_map.mp hb
          rw [h1] at hx
          obtain ⟨l, hl', rfl⟩ := List.mem_map.mp hx
          exact absurd (decide_eq_true (h2 l hl')) hn
        | true =>
          have hall : ∀ o ∈ os, markO ms o = true := fun o ho => List.all_eq_true.mp ea _ (List.mem_map.mpr ⟨o, ho, rfl⟩)
          obtain ⟨ls, e1, e2, e3⟩ := lot_texts hl hk hall
          subst e1
          subst e2
          rw [List.length_map] at h60
          refine ⟨_, rfl, iteN rfl ?_⟩
          have fin : ∀ (n : Nat), ((decide (V.int (n : Nat) = V.int ((txs ls).length : Nat))) = true ↔ ls.Nodup) → Q (.bl (decide (V.int (n : Nat) = V.int ((txs ls).length : Nat)))) H2 := fun n hn => by
            refine k _ H2 (hn.trans ⟨fun h => ⟨ls, rfl, e3, h⟩, fun ⟨ls', h1, _, h3⟩ => ?_⟩) s2
            have : ls = ls' := by
              have h1 := Option.some.inj h1
              exact List.map_inj_right (fun x y e => Option.some.inj e) |>.mp h1
            rw [this]; exact h3
          have hdec : ∀ n : Nat, (decide (V.int (n : Nat) = V.int ((txs ls).length : Nat)) = true ↔ n = ls.length) := fun n => by
            rw [decide_eq_true_eq, txs_len]
            exact ⟨fun h => by have := V.int.inj h; omega, fun h => by rw [h]⟩
          cases b with
          | false =>
            have nd : ls.Nodup := (hn.resolve_left (by simp)) ls rfl
            refine .inl ⟨_, rfl, p, ls, rfl, .inr hq2, h60, nd, ?_⟩
            refine ⟨_, rfl, p, _, rfl, .inr hq2, rfl, ?_⟩
            exact fin _ ((hdec _).trans ⟨fun _ => nd, fun _ => rfl⟩)
          | true =>
            refine .inr ⟨_, rfl, p, ls, rfl, hq2, h60, ?_⟩
            refine ⟨_, rfl, p, _, rfl, .inl hq2, rfl, ?_⟩
            refine fin _ ((hdec _).trans ?_)
            have hlen : (ls.map S).length = ls.length := List.length_map ..
            rw [← nodup_S']
            constructor
            · intro h
              have := cnt_eq (xs := ls.map S) (n := ls.length) (by rw [hlen]; exact Nat.le_refl _) h
              rwa [← hlen, List.take_length] at this
            · intro h
              exact cnt_nodup (by rw [hlen]; exact Nat.le_refl _) (by rw [← hlen, List.take_length]; exact h)
abbrev s_chlot : Stmt := top 29
abbrev n_chlot : List Str := ["reader", "lot"]
theorem sc_chlot : FnScope n_chlot ["reader", "lot"] (fnScope s_chlot) := fnScope_by (by decide +kernel)
def spChLot (K : PySem.W.Frag) (C CL : Addr) : Sp := fun vs H Q E => ∃ (a : Addr) (v : V) (sg : List Nat) (ms : List (List Nat)) (f : List Nat) (tg : List Nat → Nat → List Nat) (o : Option (List (Option (List Nat)))), vs = [.ref a, v] ∧ Rdr C H a sg ms f tg ∧ LotY K H v o ∧
  (((∃ ls, LotOk ms o ls) ∧ ∀ H', Same H H' → Q .non H') ∨ ((¬ ∃ ls, LotOk ms o ls) ∧ ∀ H', Same H H' → E (.ref CL) none H'))
theorem ok_chlot {C CL : Addr} (T : BT mg) (x_InvalidLot : XN K mg "InvalidLot" CL) (c_islot : Cal P w K mg base 2 "is_lot" (spIsLot K C) []) {f : Addr} {fd : FuncData} (F : Def K mg "check_lot" s_chlot f fd) (b : Binds K fd ["reader", "lot"] []) : CalX P w K mg base 3 "check_lot" (spChLot K C CL) := by
  refine ⟨f, fd, _, fnX F.fn sc_chlot (fun vs H Q E h => ?_) (fun cdv A outer s H vs Q E hr h => ?_), F.mgf, F.kp, b⟩
  · obtain ⟨a, v, _, _, _, _, _, rfl, _⟩ := h; rfl
  · obtain ⟨a, v, sg, ms, f, tg, o, rfl, hrd, hv, h⟩ := h
    refine ⟨_, (pss_one (ps_if (pt_not (pt_val (pe_c c_islot hr (by first | decide | omega) (by rfl) (pa_cons (pv 0) (pa_cons (pv 1) pa_nil))))) 
        (pss_one (ps_raise rfl (takes_of rfl rfl rfl rfl) (pmk_own0 PySem.F.excBase_ValueError x_InvalidLot.q x_InvalidLot.g x_InvalidLot.k x_InvalidLot.r (by rfl)))
        )
       pss_nil)
      ), ?_⟩
    refine ⟨_, rfl, _, rfl, a, v, sg, ms, f, tg, o, rfl, hrd, hv, fun bb H1 hb s1 => ?_⟩
    rcases h with ⟨h, k⟩ | ⟨h, k⟩
    · obtain rfl : bb = true := hb.mpr h
      refine ⟨_, rfl, iteN rfl ?_⟩
      exact k H1 s1
    · obtain rfl : bb = false := by
        cases bb with
        | false => rfl
        | true => exact absurd (hb.mp rfl) h
      refine ⟨_, rfl, iteB rfl ?_⟩
      exact k H1 s1
end
end Toy
set_option maxHeartbeats 1000000
namespace UW
section
variable {α : Type} [DecidableEq α] {lead : α → Nat → α} {isl : α → Bool} {sg : List Nat} {b : α}
def innG (lead : α → Nat → α) (isl : α → Bool) (t : α) (r : List Nat) : Nat → List Nat → List (α × List Nat) → List (α × List Nat)
  | _, [], L => L
  | i, c :: cs, L => if lead t i ∈ L.map (·.1) then innG lead isl t r (i + 1) cs L else if isl (lead t i) = true then L ++ [(lead t i, r ++ [c])] else innG lead isl t r (i + 1) cs (L ++ [(lead t i, r ++ [c])])
def outG (lead : α → Nat → α) (isl : α → Bool) (sg : List Nat) (lastOf : List (α × List Nat) → α) : Nat → Nat → List (α × List Nat) → List (α × List Nat)
  | 0, _, L => L
  | n + 1, at_, L => match L[at_]? with
    | none => L
    | some (t, r) => if isl (lastOf L) = true then L else outG lead isl sg lastOf n (at_ + 1) (innG lead isl t r 0 sg L)
def conv (sg : List Nat) (L : List (α × List Nat)) : List (α × List Nat) := L.map fun p => (p.1, p.2.map fun c => sg.idxOf c)
theorem conv_get {L : List (α × List Nat)} {k : Nat} {p : α × List Nat} (h : L[k]? = some p) : (conv sg L)[k]? = some (p.1, p.2.map fun c => sg.idxOf c) := by
  unfold conv; rw [List.getElem?_map, h]; rfl
theorem conv_mem {L : List (α × List Nat)} {q : α × List Nat} (h : q ∈ conv sg L) : ∃ p ∈ L, q.1 = p.1 := by
  obtain ⟨p, hp, rfl⟩ := List.mem_map.mp h
  exact ⟨p, hp, rfl⟩
theorem mem_conv {L : List (α × List Nat)} {p : α × List Nat} (h : p ∈ L) : ∃ q ∈ conv sg L, q.1 = p.1 := ⟨_, List.mem_map.mpr ⟨p, h, rfl⟩, rfl⟩
abbrev StC (lead : α → Nat → α) (isl : α → Bool) (sg : List Nat) (b : α) (L : List (α × List Nat)) (k i : Nat) : Prop := St lead sg.length (fun t => isl t = true) b (conv sg L) k i
def Non (isl : α → Bool) (L : List (α × List Nat)) : Prop := ∀ q ∈ L, isl q.1 = false
def Fnd (lead : α → Nat → α) (isl : α → Bool) (sg : List Nat) (b : α) (L : List (α × List Nat)) : Prop := (∃ k i, StC lead isl sg b L k i) ∧ ∃ p, L[L.length - 1]? = some p ∧ isl p.1 = true
theorem innG_ok (nd : sg.Nodup) {k : Nat} {t : α} {r : List Nat} : ∀ (cs : List Nat) (i : Nat) (L : List (α × List Nat)), sg.drop i = cs → i ≤ sg.length → StC lead isl sg b L k i → L[k]? = some (t, r) → Non isl L →
    (StC lead isl sg b (innG lead isl t r i cs L) k sg.length ∧ Non isl (innG lead isl t r i cs L)) ∨ Fnd lead isl sg b (innG lead isl t r i cs L)
  | [], i, L, hd, hi, st, hk, hn => by
    have : i = sg.length := by
      have := congrArg List.length hd
      rw [List.length_drop] at this
      simp at this
      omega
    subst this
    exact .inl ⟨st, hn⟩
  | c :: cs, i, L, hd, hi, st, hk, hn => by
    have hil : i < sg.length := by
      have := congrArg List.length hd
      rw [List.length_drop] at this
      simp at this
      omega
    have hc : sg[i]? = some c := by
      have e : (sg.drop i)[0]? = some c := by rw [hd]; rfl
      rw [List.getElem?_drop] at e
      simpa using e
    have hix : sg.idxOf c = i := by
      obtain ⟨h1, h2⟩ := List.getElem?_eq_some_iff.mp hc
      rw [← h2]; exact nd.idxOf_getElem i h1
    have hd2 : sg.drop (i + 1) = cs := by
      have : (sg.drop i).drop 1 = cs := by rw [hd]; rfl
      rw [List.drop_drop] at this
      exact this
    have hkc : (conv sg L)[k]? = some (t, r.map fun c => sg.idxOf c) := conv_get hk
    unfold innG
    by_cases hm : lead t i ∈ L.map (·.1)
    · rw [if_pos hm]
      obtain ⟨q, hq, e⟩ := List.mem_map.mp hm
      obtain ⟨q', hq', e'⟩ := mem_conv (sg := sg) hq
      exact innG_ok nd cs (i + 1) L hd2 hil (st.old hkc ⟨q', hq', e'.trans e⟩) hk hn
    · rw [if_neg hm]
      have hnew : ∀ q ∈ conv sg L, q.1 ≠ lead t i := fun q hq e => by
        obtain ⟨p, hp, e2⟩ := conv_mem hq
        exact hm (List.mem_map.mpr ⟨p, hp, e2.symm.trans e⟩)
      have hnl : ∀ q ∈ conv sg L, ¬ isl q.1 = true := fun q hq h => by
        obtain ⟨p, hp, e2⟩ := conv_mem hq
        rw [e2, hn p hp] at h; cases h
      have st2 : StC lead isl sg b (L ++ [(lead t i, r ++ [c])]) k (i + 1) := by
        have e := st.new hkc hil hnew hnl
        have e2 : conv sg (L ++ [(lead t i, r ++ [c])]) = conv sg L ++ [(lead t i, (r.map fun c => sg.idxOf c) ++ [i])] := by
          unfold conv
          rw [List.map_append, List.map_cons, List.map_nil, List.map_append, List.map_cons, List.map_nil, hix]
        show St lead sg.length (fun t => isl t = true) b (conv sg (L ++ [(lead t i, r ++ [c])])) k (i + 1)
        rw [e2]
        exact e
      cases hl : isl (lead t i) with
      | true =>
        rw [if_pos rfl]
        exact .inr ⟨⟨k, i + 1, st2⟩, (lead t i, r ++ [c]), by rw [List.length_append]; simp, hl⟩
      | false =>
        rw [if_neg (by simp)]
        refine innG_ok nd cs (i + 1) _ hd2 hil st2 (by rw [List.getElem?_append_left (List.getElem?_eq_some_iff.mp hk).1]; exact hk) fun q hq => ?_
        rcases List.mem_append.mp hq with h | h
        · exact hn q h
        · rw [List.mem_singleton.mp h]; exact hl
def Ends (lead : α → Nat → α) (isl : α → Bool) (sg : List Nat) (b : α) (L : List (α × List Nat)) : Prop := Fnd lead isl sg b L ∨ (Non isl L ∧ L ≠ [] ∧ ∀ w, Rw sg.length w → isl (run lead b w) = false)
theorem outG_ok (nd : sg.Nodup) {lastOf : List (α × List Nat) → α} (hlo : ∀ (L : List (α × List Nat)) p, L[L.length - 1]? = some p → lastOf L = p.1) {N : Nat} (hN : ∀ L k i, StC lead isl sg b L k i → L.length ≤ N) : ∀ (n at_ : Nat) (L : List (α × List Nat)), N < at_ + n → StC lead isl sg b L at_ 0 → Non isl L → Ends lead isl sg b (outG lead isl sg lastOf n at_ L) := by
  have fin : ∀ (at_ : Nat) (L : List (α × List Nat)), L.length ≤ at_ → StC lead isl sg b L at_ 0 → Non isl L → Ends lead isl sg b L := fun at_ L hle st hn => by
    refine .inr ⟨hn, fun h => ?_, fun w hw => ?_⟩
    · have := st.zero; rw [h] at this; cases this
    · have := st.none (by unfold conv; rw [List.length_map]; exact hle) (fun q hq h => by
        obtain ⟨p, hp, e⟩ := conv_mem hq
        rw [e, hn p hp] at h; cases h) w hw
      cases e : isl (run lead b w) with
      | false => rfl
      | true => exact absurd e this
  intro n
  induction n with
  | zero =>
    intro at_ L hlt st hn
    exact fin at_ L (by have := hN L _ _ st; omega) st hn
  | succ n ih =>
    intro at_ L hlt st hn
    unfold outG
    cases e : L[at_]? with
    | none => exact fin at_ L (List.getElem?_eq_none_iff.mp e) st hn
    | some p =>
      obtain ⟨t, r⟩ := p
      have hlen : at_ < L.length := (List.getElem?_eq_some_iff.mp e).1
      have hlast : isl (lastOf L) = false := by
        have hp : L[L.length - 1]? = some L[L.length - 1] := List.getElem?_eq_getElem (by omega)
        rw [hlo L _ hp]
        exact hn _ (List.getElem_mem _)
      show Ends lead isl sg b (if isl (lastOf L) = true then L else outG lead isl sg lastOf n (at_ + 1) (innG lead isl t r 0 sg L))
      rw [hlast, if_neg (by simp)]
      rcases innG_ok nd sg 0 L rfl (Nat.zero_le _) st e hn with ⟨st2, hn2⟩ | hf
      · exact ih (at_ + 1) _ (by omega) st2.next hn2
      · refine .inl ?_
        have key : outG lead isl sg lastOf n (at_ + 1) (innG lead isl t r 0 sg L) = innG lead isl t r 0 sg L := by
          obtain ⟨_, p, hp, hl⟩ := hf
          cases n with
          | zero => rfl
          | succ n =>
            unfold outG
            split
            · rfl
            · rw [hlo _ p hp, hl, if_pos rfl]
        rw [key]
        exact hf
theorem Fnd.least {L : List (α × List Nat)} (h : Fnd lead isl sg b L) : ∃ p, L[L.length - 1]? = some p ∧ isl p.1 = true ∧ run lead b (p.2.map fun c => sg.idxOf c) = p.1 ∧ Rw sg.length (p.2.map fun c => sg.idxOf c) ∧ ∀ w, Rw sg.length w → isl (run lead b w) = true → ¬ sl w (p.2.map fun c => sg.idxOf c) := by
  obtain ⟨⟨k, i, st⟩, p, hp, hl⟩ := h
  have hc : (conv sg L)[L.length - 1]? = some (p.1, p.2.map fun c => sg.idxOf c) := conv_get hp
  obtain ⟨h1, h2⟩ := st.row _ _ hc
  refine ⟨p, hp, hl, h1, h2, fun w hw hlw => st.found (p := (p.1, p.2.map fun c => sg.idxOf c)) (by unfold conv at hc ⊢; rw [List.length_map]; exact hc) w hw hlw⟩
end
end UW
set_option maxHeartbeats 1000000
namespace Toy
open UW
def ixs (sg v : List Nat) : List Nat := v.map fun c => sg.idxOf c
theorem ixs_app (sg u v : List Nat) : ixs sg (u ++ v) = ixs sg u ++ ixs sg v := List.map_append
theorem ixs_len (sg v : List Nat) : (ixs sg v).length = v.length := List.length_map ..
theorem lt_app1 : ∀ {u : List Nat} {a b : Nat}, a < b → u ++ [a] < u ++ [b]
  | [], a, b, h => List.cons_lt_cons_iff.mpr (.inl h)
  | x :: u, a, b, h => List.cons_lt_cons_iff.mpr (.inr ⟨rfl, lt_app1 h⟩)
theorem lt_app2 : ∀ {u v p q : List Nat}, u.length = v.length → u < v → u ++ p < v ++ q
  | [], [], p, q, _, h => absurd h (by simp)
  | x :: u, y :: v, p, q, hl, h => by
    rcases List.cons_lt_cons_iff.mp h with h | ⟨h1, h2⟩
    · exact List.cons_lt_cons_iff.mpr (.inl h)
    · exact List.cons_lt_cons_iff.mpr (.inr ⟨h1, lt_app2 (by simpa using hl) h2⟩)
  | [], y :: v, _, _, hl, _ => by simp at hl
  | x :: u, [], _, _, hl, _ => by simp at hl
theorem pw_idx {sg : List Nat} (nd : sg.Nodup) : sg.Pairwise fun c d => sg.idxOf c < sg.idxOf d := by
  rw [List.pairwise_iff_getElem]
  intro i j hi hj hij
  rw [nd.idxOf_getElem i hi, nd.idxOf_getElem j hj]
  exact hij
theorem level_sorted {sg : List Nat} (nd : sg.Nodup) : ∀ k, (level sg k).Pairwise fun a b => ixs sg a < ixs sg b
  | 0 => List.pairwise_singleton _ _
  | k + 1 => by
    show ((level sg k).flatMap fun r => sg.map fun c => r ++ [c]).Pairwise _
    rw [List.pairwise_flatMap]
    refine ⟨fun r _ => ?_, ?_⟩
    · rw [List.pairwise_map]
      refine (pw_idx nd).imp fun h => ?_
      rw [ixs_app, ixs_app]
      exact lt_app1 h
    · have ih := level_sorted nd k
      rw [List.pairwise_iff_getElem] at ih ⊢
      intro i j hi hj hij x hx y hy
      obtain ⟨c, _, rfl⟩ := List.mem_map.mp hx
      obtain ⟨d, _, rfl⟩ := List.mem_map.mp hy
      rw [ixs_app, ixs_app]
      refine lt_app2 ?_ (ih i j hi hj hij)
      rw [ixs_len, ixs_len, (level_row (List.getElem_mem hi)).1, (level_row (List.getElem_mem hj)).1]
theorem upto_sorted {sg : List Nat} (nd : sg.Nodup) : ∀ k, (upto sg k).Pairwise fun a b => sl (ixs sg a) (ixs sg b)
  | 0 => List.pairwise_singleton _ _
  | k + 1 => by
    show (upto sg k ++ level sg (k + 1)).Pairwise _
    rw [List.pairwise_append]
    refine ⟨upto_sorted nd k, ?_, fun a ha b hb => ?_⟩
    · have h := level_sorted nd (k + 1)
      rw [List.pairwise_iff_getElem] at h ⊢
      intro i j hi hj hij
      exact .inr ⟨by rw [ixs_len, ixs_len, (level_row (List.getElem_mem hi)).1, (level_row (List.getElem_mem hj)).1], h i j hi hj hij⟩
    · refine .inl ?_
      rw [ixs_len, ixs_len, (level_row hb).1]
      exact Nat.lt_succ_of_le (upto_row ha).1
theorem mem_level {sg : List Nat} : ∀ (n : Nat) (v : List Nat), v.length = n → Ov sg v → v ∈ level sg n
  | 0, v, hl, _ => by rw [List.length_eq_zero_iff.mp hl]; exact List.mem_cons_self
  | n + 1, v, hl, ho => by
    rcases List.eq_nil_or_concat v with rfl | ⟨u, c, rfl⟩
    · simp at hl
    · rw [List.concat_eq_append] at hl ho ⊢
      refine List.mem_flatMap.mpr ⟨u, mem_level n u (by simpa using hl) fun d hd => ho d (List.mem_append_left _ hd), List.mem_map.mpr ⟨c, ho c (List.mem_append_right _ List.mem_cons_self), rfl⟩⟩
theorem mem_upto {sg v : List Nat} (ho : Ov sg v) : ∀ {k : Nat}, v.length ≤ k → v ∈ upto sg k
  | 0, h => by rw [List.length_eq_zero_iff.mp (Nat.le_zero.mp h)]; exact List.mem_cons_self
  | k + 1, h => by
    rcases Nat.lt_or_ge k v.length with h1 | h1
    · exact List.mem_append_right _ (mem_level (k + 1) v (by omega) ho)
    · exact List.mem_append_left _ (mem_upto ho h1)
theorem rw_ixs {sg v : List Nat} : Rw sg.length (ixs sg v) ↔ Ov sg v := by
  constructor
  · intro h c hc
    have := h _ (List.mem_map.mpr ⟨c, hc, rfl⟩)
    exact List.idxOf_lt_length_iff.mp this
  · intro h d hd
    obtain ⟨c, hc, rfl⟩ := List.mem_map.mp hd
    exact List.idxOf_lt_length_iff.mpr (h c hc)
theorem ixs_inj {sg : List Nat} : ∀ {u v : List Nat}, Ov sg u → Ov sg v → ixs sg u = ixs sg v → u = v
  | [], [], _, _, _ => rfl
  | [], _ :: _, _, _, h => by cases h
  | _ :: _, [], _, _, h => by cases h
  | a :: u, b :: v, hu, hv, h => by
    unfold ixs at h
    rw [List.map_cons, List.map_cons, List.cons.injEq] at h
    have h1 := List.idxOf_lt_length_iff.mpr (hu a List.mem_cons_self)
    have e : a = b := by
      have e1 : sg[sg.idxOf a]? = some a := by rw [List.getElem?_eq_getElem h1, List.getElem_idxOf]
      have h2 := List.idxOf_lt_length_iff.mpr (hv b List.mem_cons_self)
      have e2 : sg[sg.idxOf b]? = some b := by rw [List.getElem?_eq_getElem h2, List.getElem_idxOf]
      rw [h.1, e2] at e1
      exact (Option.some.inj e1).symm
    rw [e, ixs_inj (fun c hc => hu c (List.mem_cons_of_mem _ hc)) (fun c hc => hv c (List.mem_cons_of_mem _ hc)) h.2]
theorem ixs_of {sg : List Nat} (nd : sg.Nodup) {w : List Nat} (h : Rw sg.length w) : ∃ v, Ov sg v ∧ ixs sg v = w := by
  refine ⟨w.map fun i => sg.getD i 0, fun c hc => ?_, ?_⟩
  · obtain ⟨i, hi, rfl⟩ := List.mem_map.mp hc
    rw [List.getD_eq_getElem?_getD, List.getElem?_eq_getElem (h i hi)]
    exact List.getElem_mem _
  · unfold ixs
    rw [List.map_map]
    conv => rhs; rw [← List.map_id w]
    refine List.map_congr_left fun i hi => ?_
    show sg.idxOf (sg.getD i 0) = i
    rw [List.getD_eq_getElem?_getD, List.getElem?_eq_getElem (h i hi)]
    exact nd.idxOf_getElem i (h i hi)
theorem not_lt_eq : ∀ {u v : List Nat}, u.length = v.length → ¬ u < v → ¬ v < u → u = v
  | [], [], _, _, _ => rfl
  | [], _ :: _, h, _, _ => by simp at h
  | _ :: _, [], h, _, _ => by simp at h
  | a :: u, b :: v, hl, h1, h2 => by
    have e : a = b := by
      rcases Nat.lt_trichotomy a b with h | h | h
      · exact absurd (List.cons_lt_cons_iff.mpr (.inl h)) h1
      · exact h
      · exact absurd (List.cons_lt_cons_iff.mpr (.inl h)) h2
    subst e
    rw [not_lt_eq (u := u) (v := v) (by simpa using hl) (fun h => h1 (List.cons_lt_cons_iff.mpr (.inr ⟨rfl, h⟩))) fun h => h2 (List.cons_lt_cons_iff.mpr (.inr ⟨rfl, h⟩))]
theorem sl_tri {u v : List Nat} (h1 : ¬ sl u v) (h2 : ¬ sl v u) : u = v := by
  have hl : u.length = v.length := by
    rcases Nat.lt_trichotomy u.length v.length with h | h | h
    · exact absurd (.inl h) h1
    · exact h
    · exact absurd (.inl h) h2
  exact not_lt_eq hl (fun h => h1 (.inr ⟨hl, h⟩)) fun h => h2 (.inr ⟨hl.symm, h⟩)
theorem sl_len {u v : List Nat} (h : sl u v) : u.length ≤ v.length := by
  rcases h with h | ⟨h, _⟩
  · exact Nat.le_of_lt h
  · exact Nat.le_of_eq h
section
variable {α : Type} [DecidableEq α] {lead : α → Nat → α} {isl : α → Bool} {sg : List Nat} {b : α}
def lastRow (isl : α → Bool) (L : List (α × List Nat)) : Option (List Nat) := match L[L.length - 1]? with
  | some p => if isl p.1 = true then some p.2 else none
  | none => none
theorem least_first (nd : sg.Nodup) {L : List (α × List Nat)} (h : Ends lead isl sg b L) (k : Nat) (h3 : (∀ w, Rw sg.length w → w.length ≤ k → isl (run lead b w) = false) → ∀ w, Rw sg.length w → isl (run lead b w) = false) :
    lastRow isl L = (upto sg k).find? fun v => isl (run lead b (ixs sg v)) := by
  unfold lastRow
  rcases h with h | ⟨hn, hne, h⟩
  · obtain ⟨p, hp, hl, hr, hw, hleast⟩ := h.least
    rw [hp]
    show (if isl p.1 = true then some p.2 else none) = _
    rw [if_pos hl]
    have hov : Ov sg p.2 := rw_ixs.mp hw
    have hlp : isl (run lead b (ixs sg p.2)) = true := by
      have : run lead b (ixs sg p.2) = p.1 := hr
      rw [this]; exact hl
    cases e : (upto sg k).find? fun v => isl (run lead b (ixs sg v)) with
    | none =>
      rw [List.find?_eq_none] at e
      have := h3 (fun w hw hlw => by
        obtain ⟨v, hv, rfl⟩ := ixs_of nd hw
        have := e v (mem_upto hv (by rw [ixs_len] at hlw; exact hlw))
        simpa using this) _ hw
      rw [show (p.2.map fun c => sg.idxOf c) = ixs sg p.2 from rfl, hlp] at this
      cases this
    | some v =>
      obtain ⟨hv, as, bs, happ, has⟩ := List.find?_eq_some_iff_append.mp e
      have hvm : v ∈ upto sg k := by rw [happ]; simp
      have n1 : ¬ sl (ixs sg v) (ixs sg p.2) := hleast _ (rw_ixs.mpr (upto_row hvm).2) hv
      have n2 : ¬ sl (ixs sg p.2) (ixs sg v) := fun hs => by
        have hm : p.2 ∈ upto sg k := mem_upto hov (by have := sl_len hs; rw [ixs_len, ixs_len] at this; exact Nat.le_trans this (upto_row hvm).1)
        have hpw := upto_sorted nd k
        rw [happ] at hm hpw
        rcases List.mem_append.mp hm with hm | hm
        · have := has _ hm
          rw [hlp] at this
          simp at this
        · rcases List.mem_cons.mp hm with hm | hm
          · rw [hm] at hs; exact sl_irr hs
          · rw [List.pairwise_append] at hpw
            exact n1 ((List.pairwise_cons.mp hpw.2.1).1 _ hm)
      rw [ixs_inj hov (upto_row hvm).2 (sl_tri n2 n1)]
  · cases e : L[L.length - 1]? with
    | none =>
      have := List.length_pos_iff.mpr hne
      rw [List.getElem?_eq_none_iff] at e
      omega
    | some p =>
      have := hn p (List.mem_of_getElem? e)
      show (if isl p.1 = true then some p.2 else none) = _
      rw [this, if_neg (by simp)]
      symm
      rw [List.find?_eq_none]
      intro v hv
      rw [h _ (rw_ixs.mpr (upto_row hv).2)]
      simp
end
end Toy
set_option maxHeartbeats 1000000
namespace Toy
open UW
section
variable {fl : Nat → Bool} {lc : Nat → Nat → Nat} {sg : List Nat}
def cntW (fl : Nat → Bool) (lc : Nat → Nat → Nat) (sg : List Nat) : Nat → Nat → Nat
  | 0, i => if fl i = true then 1 else 0
  | k + 1, i => (sg.map fun c => cntW fl lc sg k (lc i c)).sum
def accR (fl : Nat → Bool) (lc : Nat → Nat → Nat) (sg : List Nat) : Nat → Nat → List (List Nat)
  | 0, i => if fl i = true then [[]] else []
  | k + 1, i => sg.flatMap fun c => (accR fl lc sg k (lc i c)).map fun v => c :: v
def accF (fl : Nat → Bool) (lc : Nat → Nat → Nat) (sg : List Nat) (k i : Nat) (cs : List Nat) : List (List Nat) := cs.flatMap fun c => (accR fl lc sg k (lc i c)).map fun v => c :: v
theorem acc_len : ∀ k i, (accR fl lc sg k i).length = cntW fl lc sg k i
  | 0, i => by unfold accR cntW; split <;> rfl
  | k + 1, i => by
    unfold accR cntW
    rw [List.length_flatMap]
    congr 1
    refine List.map_congr_left fun c _ => ?_
    rw [List.length_map, acc_len k]
theorem accF_len (k i : Nat) (cs : List Nat) : (accF fl lc sg k i cs).length = (cs.map fun c => cntW fl lc sg k (lc i c)).sum := by
  unfold accF
  rw [List.length_flatMap]
  congr 1
  refine List.map_congr_left fun c _ => ?_
  rw [List.length_map, acc_len k]
theorem accF_hd {k i c n : Nat} {cs : List Nat} (h : n < cntW fl lc sg k (lc i c)) : (accF fl lc sg k i (c :: cs))[n]? = ((accR fl lc sg k (lc i c))[n]?).map fun v => c :: v := by
  unfold accF
  rw [List.flatMap_cons, List.getElem?_append_left (by rw [List.length_map, acc_len]; exact h), List.getElem?_map]
theorem accF_tl {k i c n : Nat} {cs : List Nat} (h : cntW fl lc sg k (lc i c) ≤ n) : (accF fl lc sg k i (c :: cs))[n]? = (accF fl lc sg k i cs)[n - cntW fl lc sg k (lc i c)]? := by
  unfold accF
  rw [List.flatMap_cons, List.getElem?_append_right (by rw [List.length_map, acc_len]; exact h), List.length_map, acc_len]
theorem acc_put {k i n j c : Nat} {v : List Nat} (hj : sg[j]? = some c) (h : (accR fl lc sg k (lc i c))[n]? = some v) : (accR fl lc sg (k + 1) i)[((sg.take j).map fun d => cntW fl lc sg k (lc i d)).sum + n]? = some (c :: v) := by
  have hlt := (List.getElem?_eq_some_iff.mp hj)
  have e : sg = sg.take j ++ c :: sg.drop (j + 1) := by rw [← hlt.2, ← List.drop_eq_getElem_cons hlt.1, List.take_append_drop]
  have hz : accR fl lc sg (k + 1) i = accF fl lc sg k i (sg.take j) ++ accF fl lc sg k i (c :: sg.drop (j + 1)) := by
    show accF fl lc sg k i sg = _
    unfold accF
    rw [← List.flatMap_append, ← e]
  rw [hz, List.getElem?_append_right (by rw [accF_len]; omega), accF_len, Nat.add_sub_cancel_left]
  rw [accF_hd (by rw [← acc_len]; exact (List.getElem?_eq_some_iff.mp h).1), h]
  rfl
theorem mem_acc : ∀ {k i : Nat} {w : List Nat}, w ∈ accR fl lc sg k i ↔ w.length = k ∧ Ov sg w ∧ fl (w.foldl lc i) = true
  | 0, i, w => by
    unfold accR
    constructor
    · intro h
      split at h
      · rename_i hf
        rw [List.mem_singleton.mp h]
        exact ⟨rfl, fun _ h => (nomatch h), hf⟩
      · cases h
    · rintro ⟨h1, h2, h3⟩
      obtain rfl := List.length_eq_zero_iff.mp h1
      rw [if_pos (show fl i = true from h3)]
      exact List.mem_singleton.mpr rfl
  | k + 1, i, w => by
    unfold accR
    rw [List.mem_flatMap]
    constructor
    · rintro ⟨c, hc, hw⟩
      obtain ⟨v, hv, rfl⟩ := List.mem_map.mp hw
      obtain ⟨h1, h2, h3⟩ := mem_acc.mp hv
      refine ⟨by rw [List.length_cons, h1], fun d hd => ?_, h3⟩
      rcases List.mem_cons.mp hd with rfl | hd
      · exact hc
      · exact h2 d hd
    · rintro ⟨h1, h2, h3⟩
      cases w with
      | nil => simp at h1
      | cons c v => exact ⟨c, h2 c List.mem_cons_self, List.mem_map.mpr ⟨v, mem_acc.mpr ⟨by simpa using h1, fun d hd => h2 d (List.mem_cons_of_mem _ hd), h3⟩, rfl⟩⟩
theorem level_cons : ∀ k, level sg (k + 1) = sg.flatMap fun c => (level sg k).map fun v => c :: v
  | 0 => by
    show ([[]] : List (List Nat)).flatMap _ = sg.flatMap fun c => [[c]]
    rw [List.flatMap_singleton]
    induction sg with
    | nil => rfl
    | cons c r ih => rw [List.map_cons, List.flatMap_cons, ih]; rfl
  | k + 1 => by
    show (level sg (k + 1)).flatMap (fun r => sg.map fun c => r ++ [c]) = _
    conv => lhs; rw [level_cons k]
    rw [List.flatMap_assoc]
    congr 1
    funext c
    rw [List.flatMap_map]
    show _ = ((level sg k).flatMap fun r => sg.map fun c => r ++ [c]).map _
    rw [List.map_flatMap]
    congr 1
    funext r
    rw [List.map_map]
    rfl
theorem acc_level : ∀ k i, accR fl lc sg k i = (level sg k).filter fun w => fl (w.foldl lc i)
  | 0, i => by
    unfold accR
    show _ = ([[]] : List (List Nat)).filter _
    cases h : fl i with
    | true => rw [if_pos rfl, List.filter_cons_of_pos (by simpa using h)]; rfl
    | false => rw [if_neg Bool.false_ne_true, List.filter_cons_of_neg (by simpa using h)]; rfl
  | k + 1, i => by
    rw [level_cons, List.filter_flatMap]
    unfold accR
    congr 1
    funext c
    rw [List.filter_map, acc_level k]
    rfl
def totW (fl : Nat → Bool) (lc : Nat → Nat → Nat) (sg : List Nat) (i : Nat) : Nat → Nat
  | 0 => 0
  | L + 1 => totW fl lc sg i L + cntW fl lc sg L i
def allR (fl : Nat → Bool) (lc : Nat → Nat → Nat) (sg : List Nat) (i : Nat) : Nat → List (List Nat)
  | 0 => []
  | L + 1 => allR fl lc sg i L ++ accR fl lc sg L i
theorem tot_sum (i : Nat) : ∀ L, totW fl lc sg i L = ((List.range L).map fun k => cntW fl lc sg k i).sum
  | 0 => rfl
  | L + 1 => by
    rw [List.range_succ, List.map_append, List.sum_append, ← tot_sum i L]
    show totW fl lc sg i L + cntW fl lc sg L i = _
    simp
def RkInv (fl : Nat → Bool) (lc : Nat → Nat → Nat) (sg v : List Nat) (i p r : Nat) : Prop := ∀ n, (accR fl lc sg (v.length - p) ((v.take p).foldl lc i))[n]? = some (v.drop p) → (accR fl lc sg v.length i)[r + n]? = some v
theorem rk_zero {v : List Nat} {i : Nat} : RkInv fl lc sg v i 0 0 := fun n h => by rw [Nat.zero_add]; exact h
theorem rk_step {v : List Nat} {i p r j c : Nat} (h : RkInv fl lc sg v i p r) (hc : v[p]? = some c) (hj : sg[j]? = some c) : RkInv fl lc sg v i (p + 1) (r + ((sg.take j).map fun d => cntW fl lc sg (v.length - p - 1) (lc ((v.take p).foldl lc i) d)).sum) := fun n e => by
  have hl := List.getElem?_eq_some_iff.mp hc
  have et : v.take (p + 1) = v.take p ++ [c] := by rw [List.take_succ, hc]; rfl
  have ed : v.drop p = c :: v.drop (p + 1) := by rw [List.drop_eq_getElem_cons hl.1, hl.2]
  rw [et, List.foldl_append, show v.length - (p + 1) = v.length - p - 1 by omega] at e
  rw [Nat.add_assoc]
  refine h _ ?_
  rw [ed, show v.length - p = (v.length - p - 1) + 1 by have := hl.1; omega]
  exact acc_put hj e
theorem all_len (i : Nat) : ∀ L, (allR fl lc sg i L).length = totW fl lc sg i L
  | 0 => rfl
  | L + 1 => by unfold allR totW; rw [List.length_append, all_len i L, acc_len]
theorem tot_le {i L M : Nat} (h : L ≤ M) : totW fl lc sg i L ≤ totW fl lc sg i M := by
  induction h with
  | refl => exact Nat.le_refl _
  | step _ ih => exact Nat.le_trans ih (Nat.le_add_right _ _)
theorem all_get {i L n : Nat} (h1 : totW fl lc sg i L ≤ n) : (allR fl lc sg i (L + 1))[n]? = (accR fl lc sg L i)[n - totW fl lc sg i L]? := by
  unfold allR
  rw [List.getElem?_append_right (by rw [all_len]; exact h1), all_len]
theorem rk_end {v : List Nat} {i r : Nat} (h : RkInv fl lc sg v i v.length r) (hf : fl (v.foldl lc i) = true) : (allR fl lc sg i (v.length + 1))[totW fl lc sg i v.length + r]? = some v := by
  rw [all_get (Nat.le_add_right _ _), Nat.add_sub_cancel_left]
  have := h 0 (by rw [Nat.sub_self, List.take_length, List.drop_length]; unfold accR; rw [if_pos hf]; rfl)
  exact this
theorem all_pre {i n : Nat} {w : List Nat} : ∀ {L M : Nat}, L ≤ M → (allR fl lc sg i L)[n]? = some w → (allR fl lc sg i M)[n]? = some w := by
  intro L M h
  induction h with
  | refl => exact id
  | step _ ih =>
    intro e
    have := ih e
    unfold allR
    rw [List.getElem?_append_left (List.getElem?_eq_some_iff.mp this).1]
    exact this
theorem all_same {i n L M : Nat} {w u : List Nat} (h1 : (allR fl lc sg i L)[n]? = some w) (h2 : (allR fl lc sg i M)[n]? = some u) : w = u := by
  rcases Nat.le_total L M with h | h
  · have := all_pre h h1; rw [this] at h2; exact Option.some.inj h2
  · have := all_pre h h2; rw [this] at h1; exact (Option.some.inj h1).symm
theorem all_level (i : Nat) : ∀ n, allR fl lc sg i (n + 1) = (upto sg n).filter fun w => fl (w.foldl lc i)
  | 0 => by
    show [] ++ accR fl lc sg 0 i = _
    rw [acc_level]
    rfl
  | n + 1 => by
    show allR fl lc sg i (n + 1) ++ accR fl lc sg (n + 1) i = (upto sg n ++ level sg (n + 1)).filter _
    rw [List.filter_append, all_level i n, acc_level]
theorem mem_all {i : Nat} {w : List Nat} : ∀ {L : Nat}, w ∈ allR fl lc sg i L ↔ w.length < L ∧ Ov sg w ∧ fl (w.foldl lc i) = true
  | 0 => ⟨fun h => (nomatch h), fun h => absurd h.1 (Nat.not_lt_zero _)⟩
  | L + 1 => by
    unfold allR
    rw [List.mem_append, mem_all, mem_acc]
    constructor
    · rintro (⟨h1, h2⟩ | ⟨h1, h2⟩)
      · exact ⟨by omega, h2⟩
      · exact ⟨by omega, h2⟩
    · rintro ⟨h1, h2⟩
      rcases Nat.lt_or_eq_of_le (Nat.le_of_lt_succ h1) with h | h
      · exact .inl ⟨h, h2⟩
      · exact .inr ⟨h, h2⟩
theorem cnt_pos {k i : Nat} : 0 < cntW fl lc sg k i ↔ ∃ w : List Nat, w.length = k ∧ Ov sg w ∧ fl (w.foldl lc i) = true := by
  rw [← acc_len, List.length_pos_iff_exists_mem]
  exact ⟨fun ⟨w, h⟩ => ⟨w, mem_acc.mp h⟩, fun ⟨w, h⟩ => ⟨w, mem_acc.mpr h⟩⟩
def Closed (lc : Nat → Nat → Nat) (sg : List Nat) (N : Nat) : Prop := ∀ t c, t < N → c ∈ sg → lc t c < N
theorem fold_lt {N : Nat} (hl : Closed lc sg N) : ∀ {w : List Nat} {i : Nat}, Ov sg w → i < N → w.foldl lc i < N
  | [], _, _, h => h
  | c :: w, i, ho, h => fold_lt hl (w := w) (fun d hd => ho d (List.mem_cons_of_mem _ hd)) (hl i c h (ho c List.mem_cons_self))
theorem pigeon {N : Nat} (hl : Closed lc sg N) {w : List Nat} {i : Nat} (ho : Ov sg w) (hi : i < N) (hw : N ≤ w.length) : ∃ p q, p < q ∧ q ≤ N ∧ (w.take p).foldl lc i = (w.take q).foldl lc i := by
  have ov : ∀ p, Ov sg (w.take p) := fun p d hd => ho d (List.mem_of_mem_take hd)
  have hnd : ¬ ((List.range (N + 1)).map fun p => (w.take p).foldl lc i).Nodup := fun nd => by
    have := sub_len (List.range N) _ nd fun x hx => by
      obtain ⟨p, _, rfl⟩ := List.mem_map.mp hx
      exact List.mem_range.mpr (fold_lt hl (ov p) hi)
    rw [List.length_map, List.length_range, List.length_range] at this
    omega
  rw [List.nodup_iff_pairwise_ne, List.pairwise_iff_getElem] at hnd
  simp only [List.length_map, List.length_range, List.getElem_map, List.getElem_range] at hnd
  apply Classical.byContradiction
  intro hc
  exact hnd fun p q hp hq hpq e => hc ⟨p, q, hpq, by omega, e⟩
theorem pump {N L i : Nat} (hl : Closed lc sg N) (hi : i < N) (hL : N ≤ L) (h : 0 < cntW fl lc sg L i) : ∃ d, 1 ≤ d ∧ d ≤ N ∧ 0 < cntW fl lc sg (L - d) i ∧ 0 < cntW fl lc sg (L + d) i := by
  obtain ⟨w, h1, h2, h3⟩ := cnt_pos.mp h
  obtain ⟨p, q, hpq, hq, e⟩ := pigeon hl h2 hi (by omega)
  have ov : ∀ {u : List Nat}, (∀ d ∈ u, d ∈ w) → Ov sg u := fun hu d hd => h2 d (hu d hd)
  have ew : (w.take q).foldl lc i = ((w.take q).drop p).foldl lc ((w.take p).foldl lc i) := by
    have : w.take q = w.take p ++ (w.take q).drop p := by
      conv => lhs; rw [← List.take_append_drop p (w.take q), List.take_take, Nat.min_eq_left (by omega)]
    conv => lhs; rw [this, List.foldl_append]
  have ed : w.foldl lc i = (w.drop q).foldl lc ((w.take q).foldl lc i) := by
    conv => lhs; rw [← List.take_append_drop q w, List.foldl_append]
  refine ⟨q - p, by omega, by omega, cnt_pos.mpr ⟨w.take p ++ w.drop q, ?_, ?_, ?_⟩, cnt_pos.mpr ⟨w.take q ++ ((w.take q).drop p ++ w.drop q), ?_, ?_, ?_⟩⟩
  · rw [List.length_append, List.length_take, List.length_drop]; omega
  · exact ov fun d hd => (List.mem_append.mp hd).elim List.mem_of_mem_take List.mem_of_mem_drop
  · rw [List.foldl_append, e, ← ed]; exact h3
  · rw [List.length_append, List.length_append, List.length_drop, List.length_drop, List.length_take]; omega
  · exact ov fun d hd => (List.mem_append.mp hd).elim List.mem_of_mem_take fun hd => (List.mem_append.mp hd).elim (fun h => List.mem_of_mem_take (List.mem_of_mem_drop h)) List.mem_of_mem_drop
  · rw [List.foldl_append, List.foldl_append, ← e, ← ew, ← ed]; exact h3
theorem pump_down {N i : Nat} (hl : Closed lc sg N) (hi : i < N) : ∀ {L : Nat}, N ≤ L → 0 < cntW fl lc sg L i → ∃ M, N ≤ M ∧ M < 2 * N ∧ M ≤ L ∧ 0 < cntW fl lc sg M i := by
  intro L
  induction L using Nat.strongRecOn with
  | ind L ih =>
    intro hL h
    by_cases h2 : L < 2 * N
    · exact ⟨L, hL, h2, Nat.le_refl _, h⟩
    · obtain ⟨d, h1, hd, hp, _⟩ := pump hl hi hL h
      obtain ⟨M, a, b, c, e⟩ := ih (L - d) (by omega) (by omega) hp
      exact ⟨M, a, b, by omega, e⟩
theorem pump_small {N i : Nat} (hl : Closed lc sg N) (hi : i < N) : ∀ {L : Nat}, 0 < cntW fl lc sg L i → ∃ M, M < N ∧ M ≤ L ∧ 0 < cntW fl lc sg M i := by
  intro L
  induction L using Nat.strongRecOn with
  | ind L ih =>
    intro h
    by_cases h2 : L < N
    · exact ⟨L, h2, Nat.le_refl _, h⟩
    · obtain ⟨d, h1, hd, hp, _⟩ := pump hl hi (by omega) h
      obtain ⟨M, a, b, c⟩ := ih (L - d) (by omega) hp
      exact ⟨M, a, by omega, c⟩
theorem pump_up {N i T : Nat} (hl : Closed lc sg N) (hi : i < N) {L : Nat} (hL : N ≤ L) (h : 0 < cntW fl lc sg L i) (hT : L < T + N) : ∃ M, T ≤ M ∧ M < T + N ∧ 0 < cntW fl lc sg M i := by
  have key : ∀ t L, T - L = t → N ≤ L → L < T + N → 0 < cntW fl lc sg L i → ∃ M, T ≤ M ∧ M < T + N ∧ 0 < cntW fl lc sg M i := by
    intro t
    induction t using Nat.strongRecOn with
    | ind t ih =>
      intro L ht hL hT h
      by_cases h2 : T ≤ L
      · exact ⟨L, h2, hT, h⟩
      · obtain ⟨d, h1, hd, _, hp⟩ := pump hl hi hL h
        exact ih (T - (L + d)) (by omega) (L + d) rfl (by omega) (by omega) hp
  exact key _ L rfl hL hT h
def lastW (fl : Nat → Bool) (lc : Nat → Nat → Nat) (sg : List Nat) (i : Nat) : Nat → Option Nat
  | 0 => none
  | L + 1 => if 0 < cntW fl lc sg L i then some L else lastW fl lc sg i L
theorem last_none {i : Nat} : ∀ {n : Nat}, lastW fl lc sg i n = none ↔ ∀ L, L < n → cntW fl lc sg L i = 0
  | 0 => ⟨fun _ _ h => absurd h (Nat.not_lt_zero _), fun _ => rfl⟩
  | n + 1 => by
    unfold lastW
    split
    · rename_i h
      exact ⟨fun h => (nomatch h), fun g => by have := g n (Nat.lt_succ_self _); omega⟩
    · rename_i h
      rw [last_none]
      refine ⟨fun g L hL => ?_, fun g L hL => g L (by omega)⟩
      rcases Nat.lt_or_eq_of_le (Nat.le_of_lt_succ hL) with h' | rfl
      · exact g L h'
      · omega
theorem last_some {i l : Nat} : ∀ {n : Nat}, lastW fl lc sg i n = some l ↔ l < n ∧ 0 < cntW fl lc sg l i ∧ ∀ L, l < L → L < n → cntW fl lc sg L i = 0
  | 0 => ⟨fun h => (nomatch h), fun h => absurd h.1 (Nat.not_lt_zero _)⟩
  | n + 1 => by
    unfold lastW
    split
    · rename_i h
      constructor
      · intro e
        cases e
        exact ⟨Nat.lt_succ_self _, h, fun L h1 h2 => by omega⟩
      · rintro ⟨h1, h2, h3⟩
        rcases Nat.lt_or_eq_of_le (Nat.le_of_lt_succ h1) with h' | rfl
        · have := h3 n h' (Nat.lt_succ_self _); omega
        · rfl
    · rename_i h
      rw [last_some]
      constructor
      · rintro ⟨h1, h2, h3⟩
        refine ⟨by omega, h2, fun L a b => ?_⟩
        rcases Nat.lt_or_eq_of_le (Nat.le_of_lt_succ b) with h' | rfl
        · exact h3 L a h'
        · omega
      · rintro ⟨h1, h2, h3⟩
        refine ⟨?_, h2, fun L a b => h3 L a (by omega)⟩
        rcases Nat.lt_or_eq_of_le (Nat.le_of_lt_succ h1) with h' | rfl
        · exact h'
        · omega
inductive Lng | no | fin (l : Nat) | inf
  deriving DecidableEq
def lngT (t : Nat) : Option Nat → Lng
  | none => .no
  | some l => if t ≤ l then .inf else .fin l
theorem lngT_no {t : Nat} {o : Option Nat} (h : lngT t o = .no) : o = none := by
  cases o with
  | none => rfl
  | some l =>
    have h : (if t ≤ l then Lng.inf else .fin l) = .no := h
    split at h <;> cases h
theorem lngT_fin {t l : Nat} {o : Option Nat} (h : lngT t o = .fin l) : o = some l ∧ l < t := by
  cases o with
  | none => cases h
  | some l' =>
    have h : (if t ≤ l' then Lng.inf else .fin l') = .fin l := h
    split at h
    · cases h
    · cases h; exact ⟨rfl, by omega⟩
theorem lngT_inf {t : Nat} {o : Option Nat} (h : lngT t o = .inf) : ∃ l, o = some l ∧ t ≤ l := by
  cases o with
  | none => cases h
  | some l =>
    have h : (if t ≤ l then Lng.inf else .fin l) = .inf := h
    split at h
    · exact ⟨l, rfl, by assumption⟩
    · cases h
def lngP (fl : Nat → Bool) (lc : Nat → Nat → Nat) (sg : List Nat) (N i : Nat) : Lng := lngT N (lastW fl lc sg i (2 * N))
def lngL (fl : Nat → Bool) (lc : Nat → Nat → Nat) (sg : List Nat) (i : Nat) : Lng := lngT 4 (lastW fl lc sg i 10)
theorem lng_no {N i : Nat} (hl : Closed lc sg N) (hi : i < N) : lngP fl lc sg N i = .no ↔ ∀ L, cntW fl lc sg L i = 0 := by
  unfold lngP
  constructor
  · intro h
    have e := lngT_no h
    rw [last_none] at e
    intro L
    rcases Nat.eq_zero_or_pos (cntW fl lc sg L i) with h0 | h0
    · exact h0
    · obtain ⟨M, h1, h2, h3⟩ := pump_small hl hi h0
      have := e M (by omega); omega
  · intro h
    rw [last_none.mpr fun L _ => h L]
    rfl
theorem lng_fin {N i l : Nat} (hl : Closed lc sg N) (hi : i < N) : lngP fl lc sg N i = .fin l ↔ l < N ∧ 0 < cntW fl lc sg l i ∧ ∀ L, l < L → cntW fl lc sg L i = 0 := by
  unfold lngP
  constructor
  · intro h
    have e := lngT_fin h
    obtain ⟨h1, h2, h3⟩ := last_some.mp e.1
    refine ⟨e.2, h2, fun L hL => ?_⟩
    rcases Nat.eq_zero_or_pos (cntW fl lc sg L i) with h0 | h0
    · exact h0
    · by_cases hN : N ≤ L
      · obtain ⟨M, a, b, c, d⟩ := pump_down hl hi hN h0
        have := h3 M (by omega) b; omega
      · have := h3 L hL (by omega); omega
  · rintro ⟨h1, h2, h3⟩
    rw [last_some.mpr ⟨by omega, h2, fun L a _ => h3 L a⟩]
    show (if N ≤ l then Lng.inf else .fin l) = _
    rw [if_neg (by omega)]
theorem tot_fin {N i l : Nat} (hl : Closed lc sg N) (hi : i < N) (h : lngP fl lc sg N i = .fin l) : ∀ M, totW fl lc sg i M ≤ totW fl lc sg i (l + 1) := by
  obtain ⟨_, _, h3⟩ := (lng_fin hl hi).mp h
  intro M
  rcases Nat.le_total M (l + 1) with hM | hM
  · exact tot_le hM
  · induction hM with
    | refl => exact Nat.le_refl _
    | @step m hm ih =>
      have e : cntW fl lc sg m i = 0 := h3 m (by have : l + 1 ≤ m := hm; omega)
      show totW fl lc sg i m + cntW fl lc sg m i ≤ _
      omega
theorem lng_ne_no {N i L n : Nat} {w : List Nat} (hl : Closed lc sg N) (hi : i < N) (h : (allR fl lc sg i L)[n]? = some w) : lngP fl lc sg N i ≠ .no := fun e => by
  have h0 := (lng_no hl hi).mp e
  obtain ⟨_, h2, h3⟩ := mem_all.mp (List.mem_of_getElem? h)
  have := cnt_pos.mpr ⟨w, rfl, h2, h3⟩
  rw [h0] at this
  exact absurd this (Nat.not_lt_zero _)
theorem all_lt {i L n : Nat} {w : List Nat} (h : (allR fl lc sg i L)[n]? = some w) : n < totW fl lc sg i L := by rw [← all_len]; exact (List.getElem?_eq_some_iff.mp h).1
theorem lng_eq {N i : Nat} (hl : Closed lc sg N) (hi : i < N) (h4 : N ≤ 4) : lngL fl lc sg i = lngP fl lc sg N i := by
  have hP : ∀ x, lngP fl lc sg N i = x → lngL fl lc sg i = x := by
    intro x hx
    unfold lngL
    cases x with
    | no =>
      rw [last_none.mpr fun L _ => (lng_no hl hi).mp hx L]; rfl
    | fin l =>
      obtain ⟨h1, h2, h3⟩ := (lng_fin hl hi).mp hx
      rw [last_some.mpr ⟨by omega, h2, fun L a _ => h3 L a⟩]
      show (if 4 ≤ l then Lng.inf else .fin l) = _
      rw [if_neg (by omega)]
    | inf =>
      unfold lngP at hx
      obtain ⟨l, e, hN⟩ := lngT_inf hx
      obtain ⟨h1, h2, _⟩ := last_some.mp e
      obtain ⟨M, a, b, c⟩ := pump_up (T := 4) hl hi hN h2 (by omega)
      cases e2 : lastW fl lc sg i 10 with
      | none => have := last_none.mp e2 M (by omega); omega
      | some l2 =>
        have h5 : 4 ≤ l2 := by
          rcases Nat.lt_or_ge l2 M with h | h
          · have := (last_some.mp e2).2.2 M h (by omega); omega
          · omega
        show (if 4 ≤ l2 then Lng.inf else .fin l2) = _
        rw [if_pos h5]
  exact hP _ rfl
end
end Toy
set_option maxHeartbeats 4000000
namespace LX
open PySem PySem.Spec PyProof.Rows L2 C8 SX
section
variable {prog : Program} {w : World} {A : Around} {E : Value → Shared → Prop} {s : Shared}
theorem set_of_listI {l : Addr} {items : Array Value} {ns : List Int} {Q : Value → Shared → Prop} (hh : A.handled = none) (hl : s.heap.IsList l items) (hi : IntsAre items.toList ns) (room : ns.length + 1 < scanBound)
    (h : ∀ (h' : Heap) (tk c : Nat), SetR w h' s.heap.objs.size (fun j => decide (j ∈ ns)) c → c ≤ ns.length → (∀ b o, s.heap.get? b = some o → h'.get? b = some o) → Q (.ref s.heap.objs.size) { s with heap := h', toks := tk }) :
    wpAny (model prog w) A (call (.type "set") [.ref l]) Q E s := by
  obtain ⟨c, tl, hmro⟩ := PySem.F.called_set.mro
  have hmade := PySem.F.called_set.made
  have hsub := PySem.F.called_set.sub
  refine wpAny_call (codeAny_of_tree ?_)
  refine wpAny_pure ⟨Code.quiet_builtin _ (by decide +kernel), codeAny_builtin PySem.F.entry_type_call ?_⟩
  rw [Around.under_plain (weight_type_call_type "set" [.ref l] []) rfl]
  have nt := PySem.F.called_set.notType
  have cc := PySem.F.called_set.canCreate
  have ct := PySem.F.typeCall_set_1 (.ref l)
  repeat (any_goals (first | assumption | wp_step))
  refine codeAny_mono (code_set_led1 (.ref l) (E := E) (Q₁ := fun obj s1 => obj = .ref s.heap.objs.size ∧ s1 = { s with heap := s.heap.push (setO (!w.params.followText "set-order")) }) ⟨rfl, rfl⟩) fun r s1 hr => ?_
  match r, hr with
  | .ok (.ret obj), hr =>
    obtain ⟨rfl, rfl⟩ := hr
    have hS : (s.heap.push (setO (!w.params.followText "set-order"))).get? s.heap.objs.size = some (setO (!w.params.followText "set-order")) := Heap.get?_push_size _ rfl
    have hTy : Shared.TypeIs { s with heap := s.heap.push (setO (!w.params.followText "set-order")) } (.ref s.heap.objs.size) "set" := ⟨_, hS, rfl⟩
    have li := PySem.F.called_set.init.lookup
    have bi := PySem.F.called_set.init.bind (.ref s.heap.objs.size)
    repeat (any_goals (first | assumption | wp_step))
    refine codeAny_mono (codeAny_call_builtin (R := wants (fun r s2 => r = .none ∧ ∃ h' tk, s2 = { s with heap := h', toks := tk } ∧ (∃ c, SetR w h' s.heap.objs.size (fun j => decide (j ∈ ns)) c ∧ c ≤ ns.length) ∧ (∀ b o, s.heap.get? b = some o → h'.get? b = some o)) E)
      PySem.F.called_set.init.plain PySem.F.entry_set_init (check_set_init_1 hTy ?_)) fun r2 s2 hr2 => ?_
    · obtain ⟨⟨oc, od, odt, osl⟩, hol, hcl, nl, hdl⟩ := hl
      dsimp only at hcl hdl
      subst hcl hdl
      have hol' : (s.heap.push (setO (!w.params.followText "set-order"))).get? l = some { cls := .type "list", dict := od, data := .seq items nl, slots := osl } := Heap.get?_push_of_some _ hol
      have ss := PySem.F.sub_list_set
      have sf := PySem.F.sub_list_frozenset
      have ne : (Value.type "list" == Value.type "dict") = false := by decide
      have hl1 : (s.heap.push (setO (!w.params.followText "set-order"))).IsList l items := ⟨_, hol', rfl, nl, rfl⟩
      unfold Builtin.«set.__init__» noKeywords Builtin.Frozenset.updateFrom
      generalize hPI : pyIter = PI
      wp_walk
      subst hPI
      refine wpAny_pyIter_list hl1 ?_
      refine wpAny_bind (wpAny_runValue ?_)
      have hlS : l < s.heap.objs.size := Heap.lt_size hol
      have hz : (s.heap.push (setO (!w.params.followText "set-order"))).objs.size = s.heap.objs.size + 1 := Heap.size_push ..
      have neI : l ≠ (s.heap.push (setO (!w.params.followText "set-order"))).objs.size := by rw [hz]; exact Nat.ne_of_lt (Nat.lt_succ_of_lt hlS)
      have off : s.heap.objs.size ∉ [(s.heap.push (setO (!w.params.followText "set-order"))).objs.size, l] := by
        rw [hz]; simp only [List.mem_cons, List.not_mem_nil, or_false, not_or]
        exact ⟨Nat.ne_of_lt (Nat.lt_succ_self _), Nat.ne_of_gt hlS⟩
      have hsz : items.size = ns.length := by have q := IntsAre.length hi; rw [Array.length_toList] at q; exact q
      refine set_update_ints ((Walks.list (A := A.in1.in1.in1) (by simp [hh]) _ l neI items).toS) s.heap.objs.size off ns hsz room (fun i v hv => ?_) _ 0 _ rfl (Nat.zero_le _) ⟨⟨_, Heap.get?_push_size _ rfl, rfl, rfl⟩, hl1.push _⟩ ⟨0, Nat.le_refl _, setR_new_at (Heap.get?_push_of_some _ hS)⟩ fun s' c hm hc hS' => ?_
      · have hlt : i < ns.length := by rw [← hsz]; exact (Array.getElem?_eq_some_iff.mp hv).1
        obtain ⟨t, e⟩ := PyProof.Rows.IntsAre.int_at hi i v (by rw [Array.getElem?_toList]; exact hv)
        exact ⟨ns[i], t, List.getElem?_eq_getElem hlt, by rw [e, List.getD_eq_getElem?_getD, List.getElem?_eq_getElem hlt]; rfl⟩
      · obtain ⟨h', g', d', tk', os'⟩ := s'
        obtain rfl : g' = s.gens := hm.gens
        obtain rfl : d' = s.drawn := hm.drawn
        obtain rfl : os' = s.os := hm.os
        refine wpAny_pure (wpAny_pure ⟨rfl, h', tk', rfl, ⟨c, hS', by rw [← hsz]; exact hc⟩, fun b o e => ?_⟩)
        have hb : b < s.heap.objs.size := Heap.lt_size e
        refine hm.heap b o (fun hmem => ?_) (Heap.get?_push_of_some _ (Heap.get?_push_of_some _ e))
        have e' : b = s.heap.objs.size ∨ b = (s.heap.push (setO (!w.params.followText "set-order"))).objs.size := by simpa using hmem
        rcases e' with e' | e'
        · exact Nat.ne_of_lt hb e'
        · rw [hz] at e'; exact Nat.ne_of_lt (Nat.lt_succ_of_lt hb) e'
    · match r2, hr2 with
      | .ok (.ret r), hr2 =>
        obtain ⟨rfl, h', tk, rfl, ⟨c, hS', hc⟩, hk'⟩ := hr2
        repeat (any_goals (first | assumption | wp_step))
        exact h _ _ _ hS' hc hk'
      | .error e, hr2 => exact hr2
  | .error e, hr => exact hr
end
section
variable {X : Cx}
theorem sortI_run {pins : List (Addr × Obj)} {σ : L2.St} {H1 : Hp} {Q : VK} {s1 : Shared} {a : Addr} {ns : List Int} {c : Nat} (hc : X.calm = true) (I2 : Inv X pins σ H1 s1) (hS : SetR X.w s1.heap a (fun j => decide (j ∈ ns)) c) (hcn : c ≤ ns.length) (hl : ns.length < 60)
    (q1 : ∀ (p : Addr) (ms : List Int), H1 p = none → ms.Pairwise (· < ·) → (∀ k, k ∈ ms ↔ k ∈ ns) → Q (.ref p) (upd H1 p (.lst (ms.map V.int)))) : wpAny (model X.prog X.w) X.A (call (.builtin "sorted") [.ref a]) (EP X pins σ Q) X.xe s1 := by
  refine sorted_set hS (I2.ok.hd hc) (by omega) fun s' p out cc ms k g o hp hg hi hs hmm hlen => ?_
  have hn : H1 p = none := I2.hok.fresh hp
  have hlen2 : (ms.map V.int).length ≤ sizeLine := by rw [List.length_map, sizeLine_eq]; omega
  have J : Inv X pins σ (upd H1 p (.lst (ms.map V.int))) { s1 with heap := s'.heap, gens := s'.gens, drawn := s'.drawn, toks := s'.toks } :=
    I2.call (ch := []) (Un.laid k hp hn) (I2.hok.laid k hp ⟨hlen2, out.toList, cc, vals_of_ints hi, hg⟩) (by rw [g]; exact I2.bare) (fun _ z => nomatch z)
  have e : s' = { s1 with heap := s'.heap, gens := s'.gens, drawn := s'.drawn, toks := s'.toks } := by
    cases s'; cases s1; cases o; rfl
  rw [e]
  exact ⟨.ref p, _, J, rfl, q1 p ms hn hs fun z => by rw [hmm z, decide_eq_true_eq]⟩
def tSortSetI (K : PySem.W.Frag) (ta : TE) : TE := fun σ H Q => ta σ H fun x H1 => ∃ (l : Addr) (ns : List Int), x = .ref l ∧ SqL K H1 l (ns.map V.int) ∧ ns.length < 60 ∧ ∀ (p : Addr) (ms : List Int), H1 p = none → ms.Pairwise (· < ·) → (∀ k, k ∈ ms ↔ k ∈ ns) → Q (.ref p) (upd H1 p (.lst (ms.map V.int)))
theorem pe_sortSetI {a : Expr} {ta : TE} {p p2 q pos : Pos} (hc : X.calm = true) (hg : Gl X "sorted") (hm : X.mg "sorted" = none) (hg2 : Gl X "set") (hm2 : X.mg "set" = none) (ha : PE X a ta)
    (na : starEach [a] X.env = (false, eval a X.env) :: starEach [] X.env := by rfl) : PE X (.Call (.Name "sorted" p) [.Call (.Name "set" p2) [a] [] q] [] pos) (tSortSetI X.K ta) := by
  refine ⟨fun pins s σ H Q I h => ?_⟩
  refine Call_ (ld_blt I hg hm PyProof.Rows.boot_sorted (PyProof.Rows.callWith_builtin1 (PyProof.Rows.args_cons ?_ rfl) rfl rfl))
  refine Call_ (ld_blt I hg2 hm2 PyProof.Rows.boot_set (PyProof.Rows.callWith_type1 (PyProof.Rows.args_cons (thn (ha.run pins s σ H _ I h) fun v s1 ⟨x, H1, I1, r1, q1⟩ => PyProof.Rows.args_nil ?_) na) na rfl))
  obtain ⟨l, ns, rfl, hq, hl, q1⟩ := q1
  cases r1
  obtain ⟨its, r, pl, hz⟩ := I1.list hq
  refine set_of_listI (ns := ns) (I1.ok.hd hc) pl.isList (by simpa using r.ints) (by unfold scanBound; omega) fun h' u c hS hcn hk => ?_
  refine PyProof.Rows.args_nil ?_
  exact sortI_run (s1 := { s1 with heap := h', toks := u }) hc (I1.kept hk) hS hcn hl q1
end
end LX
set_option maxHeartbeats 4000000
namespace LX
open PySem PySem.Spec PyProof.Rows L2 C8 SX
theorem sumK (K : PySem.W.Frag) {X : Cx} (hc : X.calm = true) (hK : X.K = K := by rfl) : CallR X (.builtin "sum") (rSum K) := by subst hK; exact cr_sum hc
theorem anyK (K : PySem.W.Frag) {X : Cx} (hc : X.calm = true) (hK : X.K = K := by rfl) : CallR X (.builtin "any") (rAny K) := by subst hK; exact cr_any hc
end LX
set_option maxHeartbeats 4000000
namespace Toy
open PySem L2 C8 SX LX
section
variable {P : Program} {w : World} {K : PySem.W.Frag} {mg : Str → Option Value} {base : Heap}
def lcT (ms : List (List Nat)) (tg : List Nat → Nat → List Nat) (t c : Nat) : Nat := ms.idxOf (tg (ms.getD t []) c)
theorem closed_of {sg : List Nat} {ms : List (List Nat)} {f : List Nat} {tg : List Nat → Nat → List Nat} (g : Good sg ms f tg) : Closed (lcT ms tg) sg ms.length := fun t c ht hc => by
  have hx : ms[t]? = some ms[t] := List.getElem?_eq_getElem ht
  unfold lcT
  rw [getD_of hx]
  exact List.idxOf_lt_length_of_mem (g.htg _ (List.getElem_mem ht) c hc)
def TabL (sg : List Nat) (ms : List (List Nat)) (tg : List Nat → Nat → List Nat) (tb : Addr) (ra : List Nat → Addr) (H : Hp) : Prop := H tb = some (.lst (ms.map fun x => .ref (ra x))) ∧ ∀ x ∈ ms, H (ra x) = some (.lst (tabI sg ms tg x))
theorem TabL.same {sg : List Nat} {ms : List (List Nat)} {tg : List Nat → Nat → List Nat} {tb : Addr} {ra : List Nat → Addr} {H H' : Hp} (h : TabL sg ms tg tb ra H) (s : Same H H') : TabL sg ms tg tb ra H' := ⟨s _ _ h.1, fun x hx => s _ _ (h.2 x hx)⟩
theorem tabI_at {sg : List Nat} {ms : List (List Nat)} {tg : List Nat → Nat → List Nat} {t : Nat} {x : List Nat} (h : ms[t]? = some x) : tabI sg ms tg x = sg.map fun c => V.int (lcT ms tg t c : Nat) := by
  unfold tabI lcT
  rw [getD_of h]
def wRow (fl : Nat → Bool) (lc : Nat → Nat → Nat) (sg : List Nat) (N k : Nat) : List V := (List.range N).map fun t => V.int (cntW fl lc sg k t : Nat)
theorem wRow_len {fl : Nat → Bool} {lc : Nat → Nat → Nat} {sg : List Nat} {N k : Nat} : (wRow fl lc sg N k).length = N := by unfold wRow; rw [List.length_map, List.length_range]
theorem wRow_at {fl : Nat → Bool} {lc : Nat → Nat → Nat} {sg : List Nat} {N k t : Nat} (h : t < N) : (wRow fl lc sg N k)[t]? = some (.int (cntW fl lc sg k t : Nat)) := by unfold wRow; rw [List.getElem?_map, List.getElem?_range h]; rfl
theorem sum_cast (l : List Nat) : (l.map fun (k : Nat) => (k : Int)).sum = ((l.sum : Nat) : Int) := by
  induction l with
  | nil => rfl
  | cons a l ih => rw [List.map_cons, List.sum_cons, List.sum_cons, ih]; omega
abbrev s_ahead : Stmt := top 33
abbrev n_ahead : List Str := ["table", "ways", "targets", "target"]
theorem sc_ahead : FnScope n_ahead ["table", "ways"] (fnScope s_ahead) := fnScope_by (by decide +kernel)
def rArg : Stmt → Expr
  | .Return (some (.ListComp e _ _ _)) _ => (match e with | .Call _ [x] _ _ => x | _ => .Constant .none 0 ⟨0, 0, 0, 0⟩)
  | _ => .Constant .none 0 ⟨0, 0, 0, 0⟩
abbrev ncs_ahead : Scope := relS (outS (ofRet ((fnBody s_ahead).getD 0 (.Pass ⟨0, 0, 0, 0⟩)))) (fnScope s_ahead)
def spAhead : Sp := fun vs H Q _ => ∃ (pt pw : Addr) (sg : List Nat) (ms : List (List Nat)) (f : List Nat) (tg : List Nat → Nat → List Nat) (ra : List Nat → Addr) (fl : Nat → Bool) (k : Nat), vs = [.ref pt, .ref pw] ∧ Good sg ms f tg ∧ TabL sg ms tg pt ra H ∧ H pw = some (.lst (wRow fl (lcT ms tg) sg ms.length k)) ∧
  ∀ (D : Addr) (H' : Hp), Same H H' → H D = none → H' D = some (.lst (wRow fl (lcT ms tg) sg ms.length (k + 1))) → Q (.ref D) H'
theorem ok_ahead (T : BT mg) {f : Addr} {fd : FuncData} (F : Def K mg "_ways_ahead" s_ahead f fd) (b : Binds K fd ["table", "ways"] []) : Cal P w K mg base 1 "_ways_ahead" spAhead [] := by
  refine cal0 F b .nil sc_ahead (fun vs H Q E h => ?_) (fun cdv A outer s H vs Q E hr h => ?_)
  · obtain ⟨pt, pw, _, _, _, _, _, _, _, rfl, _⟩ := h; rfl
  · obtain ⟨pt, pw, sg, ms, f, tg, ra, fl, kk, rfl, hgd, ht, hw, k⟩ := h
    refine ⟨_, (pss_one (ps_ret (pe_lc (own := [("targets", 2)]) rfl sc_ahead.nd (pi_list (pv 0)) (blkOk_by (N := n_ahead) (sc := fnScope s_ahead) (by decide +kernel)) (fun _ _ _ _ _ => (pg_name (i := 2) sc_ahead.nd rfl (.inl rfl))) (fun _ _ _ _ _ => pts_nil) (fun _ _ _ _ _ => (pe_callB (sumK K rfl) (by rfl) T.m_sum PyProof.Rows.boot_sum (pa_cons (pe_lc (own := [("target", 3)]) rfl sc_ahead.nd (pi_listK K (pv 2)) (blkOk_by (N := n_ahead) (sc := ncs_ahead) (by decide +kernel)) (fun _ _ _ _ _ => (pg_name (i := 3) sc_ahead.nd rfl (.inl rfl))) (fun _ _ _ _ _ => pts_nil) (fun _ _ _ _ _ => (pe_ix (ixl K) (pv 1) (pv 3) (fun _ _ => rfl)))) pa_nil)))))
      ), ?_⟩
    have h8 := hgd.h8
    have hl3 := hgd.hsg.2.2.1
    have hcl := closed_of hgd
    have hlenr : (ms.map fun x => V.ref (ra x)).length = ms.length := List.length_map _
    refine ⟨_, rfl, pt, rfl, ⟨_, SqL.of ht.1⟩, fun D hD => ?_⟩
    refine lc_keep keep_same (walk_list (K := K) (a := pt) (xs := ms.map fun x => V.ref (ra x))) hD (by rw [hlenr]; exact small1000 (by omega)) (fun j y => y = .int (cntW fl (lcT ms tg) sg (kk + 1) j : Nat)) (fun H r => SqL.of (r _ _ ht.1)) (fun i x H2 H3 R hi r hy hR => ?_) (fun ys H2 hly hg r hDs => ?_)
    · obtain ⟨rfl, ex⟩ := hy
      rw [hlenr] at hi
      have hx : ms[i]? = some ms[i] := List.getElem?_eq_getElem hi
      rw [List.getElem?_map, hx] at ex
      obtain rfl := Option.some.inj ex
      have hra := r _ _ (ht.2 _ (List.getElem_mem hi))
      rw [tabI_at hx] at hra
      refine ⟨rfl, ?_⟩
      refine ⟨_, rfl, ra ms[i], rfl, ⟨_, SqL.of hra⟩, fun D2 hD2 => ?_⟩
      refine lc_keep keep_same (walk_list (K := K) (a := ra ms[i]) (xs := sg.map fun c => V.int (lcT ms tg i c : Nat))) hD2 (by rw [List.length_map]; exact small1000 (by omega)) (fun j y => ∀ c, sg[j]? = some c → y = .int (cntW fl (lcT ms tg) sg kk (lcT ms tg i c) : Nat)) (fun H r => SqL.of (r _ _ hra)) (fun j z H4 H5 R2 hj r4 hy hR2 => ?_) (fun zs H4 hlz hgz r4 hDz => ?_)
      · obtain ⟨rfl, ex⟩ := hy
        rw [List.length_map] at hj
        have hc : sg[j]? = some sg[j] := List.getElem?_eq_getElem hj
        rw [List.getElem?_map, hc] at ex
        obtain rfl := Option.some.inj ex
        have hlt : lcT ms tg i sg[j] < ms.length := hcl i _ hi (List.getElem_mem hj)
        refine ⟨rfl, ?_⟩
        refine ⟨_, rfl, _, rfl, pw, _, _, .int (cntW fl (lcT ms tg) sg kk (lcT ms tg i sg[j]) : Nat), rfl, rfl, SqL.of (r4 _ _ (r _ _ hw)), atI_nat (wRow_at hlt), ?_⟩
        exact hR2 _ _ (Same.refl _) fun c e => by rw [hc] at e; obtain rfl := Option.some.inj e; rfl
      · have ez : zs = (sg.map fun c => ((cntW fl (lcT ms tg) sg kk (lcT ms tg i c) : Nat) : Int)).map V.int := by
          rw [List.map_map]
          rw [List.length_map] at hlz
          exact list_map hlz fun j y c e1 e2 => hgz j y e1 c e2
        subst ez
        refine ⟨D2, _, rfl, SqL.of hDz, ?_⟩
        rw [show (sg.map fun c => ((cntW fl (lcT ms tg) sg kk (lcT ms tg i c) : Nat) : Int)).sum = ((cntW fl (lcT ms tg) sg (kk + 1) i : Nat) : Int) from by
          show _ = (((sg.map fun c => cntW fl (lcT ms tg) sg kk (lcT ms tg i c)).sum : Nat) : Int)
          rw [← sum_cast, List.map_map]; rfl]
        exact hR _ _ (r4) rfl
    · rw [hlenr] at hly
      have ey : ys = wRow fl (lcT ms tg) sg ms.length (kk + 1) := list_of hly hg
      subst ey
      exact k D H2 r hD hDs
end
end Toy
set_option maxHeartbeats 4000000
namespace Toy
open PySem L2 C8 SX LX
section
variable {P : Program} {w : World} {K : PySem.W.Frag} {mg : Str → Option Value} {base : Heap}
structure WysAt (fl : Nat → Bool) (lc : Nat → Nat → Nat) (sg : List Nat) (N : Nat) (p : Addr) (was : List Addr) (H : Hp) : Prop where
  hp : H p = some (.lst (was.map V.ref))
  row : ∀ (k : Nat) a, was[k]? = some a → H a = some (.lst (wRow fl lc sg N k))
  off : ∀ a ∈ was, a ≠ p
theorem WysAt.same {fl : Nat → Bool} {lc : Nat → Nat → Nat} {sg : List Nat} {N : Nat} {p : Addr} {was : List Addr} {H H' : Hp} (h : WysAt fl lc sg N p was H) (s : Same H H') : WysAt fl lc sg N p was H' := ⟨s _ _ h.hp, fun k a e => s _ _ (h.row k a e), h.off⟩
theorem WysAt.more {fl : Nat → Bool} {lc : Nat → Nat → Nat} {sg : List Nat} {N : Nat} {p D : Addr} {was : List Addr} {H : Hp} (h : WysAt fl lc sg N p was H) (hD : H D = some (.lst (wRow fl lc sg N was.length))) (hn : D ≠ p) : WysAt fl lc sg N p (was ++ [D]) (upd H p (.lst (was.map V.ref ++ [V.ref D]))) := by
  refine ⟨by rw [upd_same, List.map_append]; rfl, fun k a e => ?_, fun a ha => ?_⟩
  · rcases Nat.lt_or_ge k was.length with hk | hk
    · rw [List.getElem?_append_left hk] at e
      rw [upd_ne (h.off a (List.mem_of_getElem? e))]
      exact h.row k a e
    · rw [List.getElem?_append_right hk] at e
      cases q : k - was.length with
      | zero =>
        rw [q] at e
        obtain rfl : D = a := Option.some.inj e
        rw [upd_ne hn, show k = was.length by omega]
        exact hD
      | succ j => rw [q] at e; cases e
  · rcases List.mem_append.mp ha with ha | ha
    · exact h.off a ha
    · rw [List.mem_singleton.mp ha]; exact hn
theorem wRow_zero {fl : Nat → Bool} {lc : Nat → Nat → Nat} {sg : List Nat} {N : Nat} : wRow fl lc sg N 0 = (List.range N).map fun t => V.int (if fl t = true then 1 else 0 : Int) := by
  unfold wRow
  refine List.map_congr_left fun t _ => ?_
  unfold cntW
  split <;> rfl
theorem getD_get {l : List Addr} {i : Nat} (h : i < l.length) : l[i]? = some (l.getD i 0) := by rw [List.getD_eq_getElem?_getD, List.getElem?_eq_getElem h]; rfl
abbrev s_ways : Stmt := top 32
abbrev n_ways : List Str := ["table", "flags", "length", "ways", "_", "flag"]
theorem sc_ways : FnScope n_ways ["table", "flags", "length"] (fnScope s_ways) := fnScope_by (by decide +kernel)
def spWays : Sp := fun vs H Q _ => ∃ (pt pf : Addr) (sg : List Nat) (ms : List (List Nat)) (f : List Nat) (tg : List Nat → Nat → List Nat) (ra : List Nat → Addr) (fl : Nat → Bool) (n : Nat), vs = [.ref pt, .ref pf, .int n] ∧ Good sg ms f tg ∧ TabL sg ms tg pt ra H ∧ H pf = some (.lst (flV fl ms.length)) ∧ n ≤ 70 ∧
  ∀ (p : Addr) (was : List Addr) (H' : Hp), Same H H' → H p = none → WysAt fl (lcT ms tg) sg ms.length p was H' → was.length = n + 1 → Q (.ref p) H'
theorem ok_ways (T : BT mg) (c_ahead : Cal P w K mg base 1 "_ways_ahead" spAhead []) {f : Addr} {fd : FuncData} (F : Def K mg "ways_by_length" s_ways f fd) (b : Binds K fd ["table", "flags", "length"] []) : Cal P w K mg base 2 "ways_by_length" spWays [] := by
  refine cal0 F b .nil sc_ways (fun vs H Q E h => ?_) (fun cdv A outer s H vs Q E hr h => ?_)
  · obtain ⟨pt, pf, _, _, _, _, _, _, _, rfl, _⟩ := h; rfl
  · obtain ⟨pt, pf, sg, ms, f, tg, ra, fl, n, rfl, hgd, ht, hf, hn, k⟩ := h
    refine ⟨_, (pss_cons (ps_set (i := 3) sc_ways.nd rfl (.inl rfl) (pe_lst (pa_cons (pe_lc (own := [("flag", 5)]) rfl sc_ways.nd (pi_list (pv 1)) (blkOk_by (N := n_ways) (sc := fnScope s_ways) (by decide +kernel)) (fun _ _ _ _ _ => (pg_name (i := 5) sc_ways.nd rfl (.inl rfl))) (fun _ _ _ _ _ => pts_nil) (fun _ _ _ _ _ => (pe_callTy call_int1 (by rfl) T.m_int PyProof.Rows.boot_int (pa_cons (pv 5) pa_nil)))) pa_nil)))
      (pss_cons (ps_for PassesOwn.never rfl (pi_range1 (by rfl) T.m_range (pa_cons (pv 2) pa_nil)) (pg_name (i := 4) sc_ways.nd rfl (.inl rfl)) 
        (pss_one (ps_expr (pe_bm PySem.F.plainAttrs_list PySem.F.slot_list_append PySem.F.type_list_append mt_append (pv 3) (pa_cons (pe_c c_ahead hr (by first | decide | omega) (by rfl) (pa_cons (pv 0) (pa_cons (pe_ix (ixl K) (pv 3) (pe_un un_neg pe_int) (fun _ _ => rfl)) pa_nil))) pa_nil)))
        ))
      (pss_one (ps_ret (pv 3))
      ))), ?_⟩
    have h8 := hgd.h8
    have hlf : (flV fl ms.length).length = ms.length := by unfold flV; rw [List.length_map, List.length_range]
    refine ⟨_, rfl, pf, rfl, ⟨_, SqL.of hf⟩, fun D hD => ?_⟩
    refine lc_keep keep_same (walk_list (K := K) (a := pf) (xs := flV fl ms.length)) hD (by rw [hlf]; exact small1000 (by omega)) (fun j y => y = .int (if fl j = true then 1 else 0 : Int)) (fun H r => SqL.of (r _ _ hf)) (fun i x H2 H3 R hi r hy hR => ?_) (fun ys H2 hly hg r hDs => ?_)
    · obtain ⟨rfl, ex⟩ := hy
      unfold flV at ex
      rw [hlf] at hi
      rw [List.getElem?_map, List.getElem?_range hi] at ex
      obtain rfl := Option.some.inj ex
      refine ⟨rfl, ?_⟩
      exact ⟨_, rfl, .inr ⟨_, rfl, hR _ _ (Same.refl _) rfl⟩⟩
    · rw [hlf] at hly
      have ey : ys = wRow fl (lcT ms tg) sg ms.length 0 := by rw [wRow_zero]; exact list_of hly hg
      subst ey
      refine ⟨by show 1 ≤ sizeLine; decide, fun p hp => ?_⟩
      have hDp : D ≠ p := fun e => by rw [← e, hDs] at hp; cases hp
      have hpH : H p = none := by
        cases e : H p with
        | none => rfl
        | some o => rw [r _ _ e] at hp; cases hp
      have w0 : WysAt fl (lcT ms tg) sg ms.length p [D] (upd H2 p (.lst [.ref D])) := by
        refine ⟨upd_same, fun k a e => ?_, fun a ha => ?_⟩
        · cases k with
          | zero =>
            obtain rfl : D = a := Option.some.inj e
            rw [upd_ne hDp]; exact hDs
          | succ k => cases e
        · rw [List.mem_singleton.mp ha]; exact hDp
      refine ⟨_, rfl, (n : Int), rfl, by omega, by omega, ?_⟩
      refine for_it (walk_range (lo := 0)) (fun i σ H' => ∃ (was : List Addr) (s4 s5 : Option V), σ = [some (.ref pt), some (.ref pf), some (.int n), some (.ref p), s4, s5] ∧ Same H H' ∧ WysAt fl (lcT ms tg) sg ms.length p was H' ∧ was.length = i + 1)
        ⟨[D], _, _, rfl, r.trans (sm_new hp), w0, rfl⟩ (fun _ _ _ _ _ => trivial) ?_ ?_
      · rintro i x σ H3 H3' hi ⟨was, s4, s5, rfl, s3, hw, hwl⟩ ⟨rfl, rfl⟩
        have hat : atI (was.map V.ref) (-1) = some (.ref (was.getD i 0)) := at_last (by rw [List.length_map, hwl]; omega) (by rw [List.length_map, hwl, Nat.add_sub_cancel, List.getElem?_map, getD_get (by omega)]; rfl)
        have hlast : was[i]? = some (was.getD i 0) := getD_get (by omega)
        refine ⟨_, rfl, .inl ⟨rfl, _, SqL.of hw.hp⟩, ?_⟩
        refine ⟨_, rfl, _, rfl, _, rfl, p, _, _, _, rfl, rfl, SqL.of hw.hp, hat, ?_⟩
        refine ⟨pt, was.getD i 0, sg, ms, f, tg, ra, fl, i, rfl, hgd, ht.same s3, hw.row _ _ hlast, fun D2 H4 s4 n4 hD4 => ?_⟩
        have hw4 := hw.same s4
        have hDp2 : D2 ≠ p := fun e => by rw [e, hw.hp] at n4; cases n4
        refine ⟨p, _, _, rfl, rfl, hw4.hp, by rw [List.length_map, hwl]; exact small1000 (by omega), ?_⟩
        have hpn : Same H (upd H4 p (.lst (was.map V.ref ++ [V.ref D2]))) := sm_put (s3.trans s4) hpH
        refine ⟨was ++ [D2], _, _, rfl, hpn, hw4.more (by rw [hwl]; exact hD4) hDp2, by rw [List.length_append, hwl]; rfl⟩
      · rintro σ H3 ⟨was, s4, s5, rfl, s3, hw, hwl⟩
        exact ⟨_, rfl, k p was H3 s3 hpH hw (by rw [hwl]; omega)⟩
end
end Toy
set_option maxHeartbeats 4000000
namespace Toy
open PySem L2 C8 SX LX
section
variable {P : Program} {w : World} {K : PySem.W.Frag} {mg : Str → Option Value} {base : Heap}
abbrev s_numof : Stmt := top 37
abbrev n_numof : List Str := ["signs", "table", "first", "flags", "row", "ways", "at", "number", "place", "sign", "sign_at", "length", "target"]
theorem sc_numof : FnScope n_numof ["signs", "table", "first", "flags", "row"] (fnScope s_numof) := fnScope_by (by decide +kernel)
def spNumOf : Sp := fun vs H Q _ => ∃ (pt pf : Addr) (sg : List Nat) (ms : List (List Nat)) (f : List Nat) (tg : List Nat → Nat → List Nat) (ra : List Nat → Addr) (fl : Nat → Bool) (i0 : Nat) (v : List Nat), vs = [.str (S sg), .ref pt, .int i0, .ref pf, .str (S v)] ∧ Good sg ms f tg ∧ TabL sg ms tg pt ra H ∧ H pf = some (.lst (flV fl ms.length)) ∧ i0 < ms.length ∧ Ov sg v ∧ v.length ≤ 70 ∧
  ∀ (H' : Hp), Same H H' → (fl (v.foldl (lcT ms tg) i0) = true → ∀ n : Nat, (allR fl (lcT ms tg) sg i0 (v.length + 1))[n]? = some v → Q (.int n) H') ∧ (fl (v.foldl (lcT ms tg) i0) = false → Q .non H')
theorem ok_numof (T : BT mg) (c_ways : Cal P w K mg base 2 "ways_by_length" spWays []) {f : Addr} {fd : FuncData} (F : Def K mg "number_of_row" s_numof f fd) (b : Binds K fd ["signs", "table", "first", "flags", "row"] []) : Cal P w K mg base 3 "number_of_row" spNumOf [] := by
  refine cal0 F b .nil sc_numof (fun vs H Q E h => ?_) (fun cdv A outer s H vs Q E hr h => ?_)
  · obtain ⟨pt, pf, _, _, _, _, _, _, _, _, rfl, _⟩ := h; rfl
  · obtain ⟨pt, pf, sg, ms, f, tg, ra, fl, i0, v, rfl, hgd, ht, hf, hi0, ho, hv, k⟩ := h
    refine ⟨_, (pss_cons (ps_set (i := 5) sc_numof.nd rfl (.inr rfl) (pe_c c_ways hr (by first | decide | omega) (by rfl) (pa_cons (pv 1) (pa_cons (pv 3) (pa_cons (pe_callB call_len_str (by rfl) T.m_len PySem.boot_len (pa_cons (pv 4) pa_nil)) pa_nil)))))
      (pss_cons (ps_set (i := 6) sc_numof.nd rfl (.inr rfl) (pv 2))
      (pss_cons (ps_set (i := 7) sc_numof.nd rfl (.inl rfl) (pe_callB (sumK K rfl) (by rfl) T.m_sum PyProof.Rows.boot_sum (pa_cons (pe_lc (own := [("length", 11)]) rfl sc_numof.nd (pi_range1 (by rfl) T.m_range (pa_cons (pe_callB call_len_str (by rfl) T.m_len PySem.boot_len (pa_cons (pv 4) pa_nil)) pa_nil)) (blkOk_by (N := n_numof) (sc := fnScope s_numof) (by decide +kernel)) (fun _ _ _ _ _ => (pg_name (i := 11) sc_numof.nd rfl (.inl rfl))) (fun _ _ _ _ _ => pts_nil) (fun _ _ _ _ _ => (pe_ix (ixl K) (pe_ix (ixl K) (pv 5) (pv 11) (fun _ _ => rfl)) (pv 6) (fun _ _ => rfl)))) pa_nil)))
      (pss_cons (ps_for PassesOwn.never rfl (pi_enumX (by rfl) T.m_enumerate (pa_cons (pv 4) pa_nil)) (tupK K 2 (pgs_cons (pg_name (i := 8) sc_numof.nd rfl (.inr rfl)) (pgs_cons (pg_name (i := 9) sc_numof.nd rfl (.inl rfl)) pgs_nil))) 
        (pss_cons (ps_set (i := 10) sc_numof.nd rfl (.inl rfl) (pe_m1 PySem.F.slot_str_index PySem.F.type_str_index mt_sindex (pv 0) (pv 9)))
        (pss_cons (ps_aug (i := 7) sc_numof.nd rfl (.inl rfl) (pe_callB (sumK K rfl) (by rfl) T.m_sum PyProof.Rows.boot_sum (pa_cons (pe_lc (own := [("target", 12)]) rfl sc_numof.nd (pi_list (pe_slice sl_list (pe_ix (ixl K) (pv 1) (pv 6) (fun _ _ => rfl)) po_none (po_some (pv 10)))) (blkOk_by (N := n_numof) (sc := fnScope s_numof) (by decide +kernel)) (fun _ _ _ _ _ => (pg_name (i := 12) sc_numof.nd rfl (.inl rfl))) (fun _ _ _ _ _ => pts_nil) (fun _ _ _ _ _ => (pe_ix (ixl K) (pe_ix (ixl K) (pv 5) (pe_op op_sub (pe_op op_sub (pe_callB call_len_str (by rfl) T.m_len PySem.boot_len (pa_cons (pv 4) pa_nil)) (pv 8)) pe_int) (fun _ _ => rfl)) (pv 12) (fun _ _ => rfl)))) pa_nil)) ip_add)
        (pss_one (ps_set (i := 6) sc_numof.nd rfl (.inr rfl) (pe_ix (ixl K) (pe_ix (ixl K) (pv 1) (pv 6) (fun _ _ => rfl)) (pv 10) (fun _ _ => rfl)))
        ))))
      (pss_one (ps_ret (pe_ifExp (pt_val (pe_ix (ixl K) (pv 3) (pv 6) (fun _ _ => rfl))) (pv 7) pe_non))
      ))))), ?_⟩
    have h8 := hgd.h8
    have hl3 := hgd.hsg.2.2.1
    have hcl := closed_of hgd
    have hsz : (S v).length ≤ sizeLine := by rw [S_len]; exact sz (m := 100) (by omega) (by decide)
    refine ⟨_, rfl, _, rfl, _, rfl, S v, rfl, hsz, ?_⟩
    refine ⟨pt, pf, sg, ms, f, tg, ra, fl, v.length, by rw [S_len]; rfl, hgd, ht, hf, hv, fun p was H1 s1 n1 hw hwl => ?_⟩
    have ht1 := ht.same s1
    have hf1 := s1 _ _ hf
    have hat : ∀ {L : Nat}, L ≤ v.length → (was.map V.ref)[L]? = some (.ref (was.getD L 0)) ∧ was[L]? = some (was.getD L 0) := fun {L} h => by
      have := getD_get (l := was) (i := L) (by omega)
      exact ⟨by rw [List.getElem?_map, this]; rfl, this⟩
    refine ⟨_, rfl, ?_⟩
    refine ⟨_, rfl, S v, rfl, hsz, ((S v).length : Int), rfl, by rw [S_len]; omega, by rw [S_len]; omega, fun D hD => ?_⟩
    rw [S_len]
    refine lc_keep keep_same (walk_range (lo := 0) (n := (v.length : Int).toNat)) hD (by rw [Int.toNat_natCast]; exact small1000 (by omega)) (fun j y => y = .int (cntW fl (lcT ms tg) sg j i0 : Nat)) (fun _ _ => trivial) (fun i x H2 H3 R hi r hy hR => ?_) (fun ys H2 hly hg r hDs => ?_)
    · obtain ⟨rfl, rfl⟩ := hy
      rw [Int.toNat_natCast] at hi
      obtain ⟨g1, g2⟩ := hat (L := i) (by omega)
      refine ⟨rfl, ?_⟩
      refine ⟨_, rfl, _, rfl, p, _, (i : Nat), _, rfl, by show V.int (0 + (i : Int)) = _; rw [Int.zero_add], SqL.of (r _ _ hw.hp), atI_nat g1, ?_⟩
      refine ⟨_, rfl, was.getD i 0, _, _, _, rfl, rfl, SqL.of (r _ _ (hw.row _ _ g2)), atI_nat (wRow_at hi0), ?_⟩
      exact hR _ _ (Same.refl _) rfl
    · rw [Int.toNat_natCast] at hly
      have ez : ys = ((List.range v.length).map fun k => ((cntW fl (lcT ms tg) sg k i0 : Nat) : Int)).map V.int := by rw [List.map_map]; exact list_of hly hg
      subst ez
      refine ⟨D, _, rfl, SqL.of hDs, ?_⟩
      rw [show ((List.range v.length).map fun k => ((cntW fl (lcT ms tg) sg k i0 : Nat) : Int)).sum = ((totW fl (lcT ms tg) sg i0 v.length : Nat) : Int) from by rw [tot_sum, ← sum_cast, List.map_map]; rfl]
      have s2 := s1.trans r
      have hw2 := hw.same r
      have ht2 := ht.same s2
      have hf2 := s2 _ _ hf
      refine ⟨_, rfl, V.str (S v), .txt (S v), rfl, rfl, trivial, ?_⟩
      refine for_it (walk_enumX (K := K) (S := .txt (S v)) (xs := v.map fun c => V.str (S [c]))) (fun q σ H' => ∃ (rr : Nat) (s8 s9 s10 s11 s12 : Option V), σ = [some (.str (S sg)), some (.ref pt), some (.int i0), some (.ref pf), some (.str (S v)), some (.ref p), some (.int ((v.take q).foldl (lcT ms tg) i0 : Nat)), some (.int ((totW fl (lcT ms tg) sg i0 v.length + rr : Nat) : Int)), s8, s9, s10, s11, s12] ∧ Same H2 H' ∧ RkInv fl (lcT ms tg) sg v i0 q rr)
        ⟨0, _, _, _, _, _, rfl, Same.refl _, rk_zero⟩ (fun _ _ _ _ _ => rfl) ?_ ?_
      · rintro q x σ H3 H3' hq ⟨rr, s8, s9, s10, s11, s12, rfl, s3, hrk⟩ hy
        obtain ⟨t, x1, x2, rfl, htn, rfl, e1, e2⟩ := hy
        rw [List.length_map] at hq
        obtain rfl : V.int (q : Nat) = x1 := Option.some.inj e1
        have e2 : (v.map fun c => V.str (S [c]))[q]? = some x2 := e2
        have hc : v[q]? = some v[q] := List.getElem?_eq_getElem hq
        rw [List.getElem?_map, hc] at e2
        obtain rfl : V.str (S [v[q]]) = x2 := Option.some.inj e2
        have hcs : v[q] ∈ sg := ho _ (List.getElem_mem hq)
        generalize hcc : v[q] = c at *
        have s4 : Same H3 (upd H3 t (.tup [.int (q : Nat), .str (S [c])])) := sm_new htn
        have ht4 : (upd H3 t (.tup [.int (q : Nat), .str (S [c])])) t = some (.tup [.int (q : Nat), .str (S [c])]) := upd_same
        generalize upd H3 t (.tup [.int (q : Nat), .str (S [c])]) = H4 at s4 ht4 ⊢
        refine ⟨t, _, rfl, .inl (.inl ht4), rfl, _, _, rfl, _, _, rfl, rfl, ?_⟩
        obtain ⟨rest, hocc⟩ := occ_idx hcs
        refine ⟨_, rfl, ⟨_, rfl⟩, _, rfl, _, _, _, rest, rfl, rfl, hocc, ?_⟩
        have hjl : sg.idxOf c < sg.length := List.idxOf_lt_length_of_mem hcs
        have hj : sg[sg.idxOf c]? = some c := by rw [List.getElem?_eq_getElem hjl, List.getElem_idxOf]
        generalize sg.idxOf c = j at *
        have s34 := s3.trans s4
        have ht4' := ht2.same s34
        have hw4 := hw2.same s34
        have hai : (v.take q).foldl (lcT ms tg) i0 < ms.length := fold_lt hcl (fun d hd => ho d (List.mem_of_mem_take hd)) hi0
        have eat : (v.take (q + 1)).foldl (lcT ms tg) i0 = lcT ms tg ((v.take q).foldl (lcT ms tg) i0) c := by
          rw [List.take_succ, hc, List.foldl_append]; rfl
        have hrk' := rk_step hrk hc hj
        rw [eat]
        generalize (v.take q).foldl (lcT ms tg) i0 = at' at hai hrk' ⊢
        have hx : ms[at']? = some ms[at'] := List.getElem?_eq_getElem hai
        have hrow := ht4'.2 _ (List.getElem_mem hai)
        rw [tabI_at hx] at hrow
        have htat : (ms.map fun x => V.ref (ra x))[at']? = some (.ref (ra ms[at'])) := by rw [List.getElem?_map, hx]; rfl
        refine ⟨_, rfl, _, rfl, _, rfl, pt, _, _, _, rfl, rfl, SqL.of ht4'.1, atI_nat htat, ?_⟩
        refine ⟨_, rfl, (j : Int), rfl, ra ms[at'], _, rfl, SqL.of hrow, fun a ha => ?_⟩
        rw [cut_any, ← List.map_take]
        have s5 : Same H4 (upd H4 a (.lst ((sg.take j).map fun c => V.int (lcT ms tg at' c : Nat)))) := sm_new ha
        have ha5 : (upd H4 a (.lst ((sg.take j).map fun c => V.int (lcT ms tg at' c : Nat)))) a = some (.lst ((sg.take j).map fun c => V.int (lcT ms tg at' c : Nat))) := upd_same
        generalize upd H4 a (.lst ((sg.take j).map fun c => V.int (lcT ms tg at' c : Nat))) = H5 at s5 ha5 ⊢
        refine ⟨a, rfl, ⟨_, SqL.of ha5⟩, fun D2 hD2 => ?_⟩
        obtain ⟨g1, g2⟩ := hat (L := v.length - q - 1) (by omega)
        refine lc_keep keep_same (walk_list (K := K) (a := a) (xs := (sg.take j).map fun c => V.int (lcT ms tg at' c : Nat))) hD2 (by rw [List.length_map, List.length_take]; exact small1000 (by omega)) (fun m y => ∀ d, (sg.take j)[m]? = some d → y = .int (cntW fl (lcT ms tg) sg (v.length - q - 1) (lcT ms tg at' d) : Nat)) (fun H r => SqL.of (r _ _ ha5)) (fun m z H6 H7 R2 hm r6 hy hR2 => ?_) (fun zs H6 hlz hgz r6 hDz => ?_)
        · obtain ⟨rfl, ex⟩ := hy
          rw [List.length_map] at hm
          have hd : (sg.take j)[m]? = some (sg.take j)[m] := List.getElem?_eq_getElem hm
          have hds : (sg.take j)[m] ∈ sg := List.mem_of_mem_take (List.getElem_mem hm)
          rw [List.getElem?_map, hd] at ex
          generalize (sg.take j)[m] = d at hd hds ex
          obtain rfl := Option.some.inj ex
          have hw6 := (hw4.same s5).same r6
          refine ⟨rfl, ?_⟩
          refine ⟨_, rfl, _, rfl, S v, rfl, hsz, _, rfl, _, _, rfl, rfl, _, _, rfl, rfl, ?_⟩
          have hdl : lcT ms tg at' d < ms.length := hcl _ _ hai hds
          refine ⟨p, _, ((v.length - q - 1 : Nat) : Int), _, rfl, by
            show V.int (((S v).length : Int) - (q : Int) - 1) = _
            rw [S_len]
            exact congrArg V.int (by omega), SqL.of hw6.hp, atI_nat g1, ?_⟩
          refine ⟨_, rfl, was.getD (v.length - q - 1) 0, _, _, _, rfl, rfl, SqL.of (hw6.row _ _ g2), atI_nat (wRow_at hdl), ?_⟩
          exact hR2 _ _ (Same.refl _) fun d' e => by rw [hd] at e; obtain rfl := Option.some.inj e; rfl
        · rw [List.length_map] at hlz
          have ez : zs = ((sg.take j).map fun d => ((cntW fl (lcT ms tg) sg (v.length - q - 1) (lcT ms tg at' d) : Nat) : Int)).map V.int := by
            rw [List.map_map]
            exact list_map hlz fun m y d e1 e2 => hgz m y e1 d e2
          subst ez
          refine ⟨D2, _, rfl, SqL.of hDz, ?_⟩
          rw [show ((sg.take j).map fun d => ((cntW fl (lcT ms tg) sg (v.length - q - 1) (lcT ms tg at' d) : Nat) : Int)).sum = ((((sg.take j).map fun d => cntW fl (lcT ms tg) sg (v.length - q - 1) (lcT ms tg at' d)).sum : Nat) : Int) from by rw [← sum_cast, List.map_map]; rfl]
          generalize ((sg.take j).map fun d => cntW fl (lcT ms tg) sg (v.length - q - 1) (lcT ms tg at' d)).sum = z at hrk' ⊢
          have s56 := s5.trans r6
          refine ⟨_, _, rfl, rfl, ?_⟩
          refine ⟨_, rfl, _, rfl, pt, _, _, _, rfl, rfl, SqL.of (s56 _ _ ht4'.1), atI_nat htat, ?_⟩
          refine ⟨_, rfl, ra ms[at'], _, _, .int (lcT ms tg at' c : Nat), rfl, rfl, SqL.of (s56 _ _ hrow), atI_nat (by rw [List.getElem?_map, hj]; rfl), ?_⟩
          have ei : ((totW fl (lcT ms tg) sg i0 v.length + rr : Nat) : Int) + (z : Int) = ((totW fl (lcT ms tg) sg i0 v.length + (rr + z) : Nat) : Int) := by omega
          exact ⟨rr + z, _, _, _, _, _, by rw [← ei]; rfl, s34.trans s56, hrk'⟩
      · rintro σ H3 ⟨rr, s8, s9, s10, s11, s12, rfl, s3, hrk⟩
        rw [List.length_map, List.take_length] 
        have hai : v.foldl (lcT ms tg) i0 < ms.length := fold_lt hcl ho hi0
        rw [List.length_map] at hrk
        have hend := rk_end hrk
        generalize v.foldl (lcT ms tg) i0 = at' at hai hend k ⊢
        refine ⟨_, rfl, _, rfl, pf, _, _, .bl (fl at'), rfl, rfl, SqL.of (s3 _ _ hf2), atI_nat (by unfold flV; rw [List.getElem?_map, List.getElem?_range hai]; rfl), ?_⟩
        refine ⟨_, rfl, ?_⟩
        obtain ⟨k1, k2⟩ := k H3 (s2.trans s3)
        cases e : fl at' with
        | true => exact ⟨_, rfl, k1 e _ (hend e)⟩
        | false => exact k2 e
end
end Toy
set_option maxHeartbeats 4000000
namespace Toy
open PySem L2 C8 SX LX
section
variable {P : Program} {w : World} {K : PySem.W.Frag} {mg : Str → Option Value} {base : Heap}
abbrev s_rowof : Stmt := top 36
abbrev n_rowof : List Str := ["signs", "table", "at", "ways", "number", "row", "left", "sign", "target"]
theorem sc_rowof : FnScope n_rowof ["signs", "table", "at", "ways", "number"] (fnScope s_rowof) := fnScope_by (by decide +kernel)
def spRowOf : Sp := fun vs H Q _ => ∃ (pt p : Addr) (sg : List Nat) (ms : List (List Nat)) (f : List Nat) (tg : List Nat → Nat → List Nat) (ra : List Nat → Addr) (fl : Nat → Bool) (i0 L n : Nat) (was : List Addr), vs = [.str (S sg), .ref pt, .int i0, .ref p, .int n] ∧ Good sg ms f tg ∧ TabL sg ms tg pt ra H ∧ WysAt fl (lcT ms tg) sg ms.length p was H ∧ was.length = L + 1 ∧ L ≤ 70 ∧ i0 < ms.length ∧ n < cntW fl (lcT ms tg) sg L i0 ∧
  ∀ (H' : Hp) (v : List Nat), Same H H' → (accR fl (lcT ms tg) sg L i0)[n]? = some v → Q (.str (S v)) H'
theorem ok_rowof (T : BT mg) {f : Addr} {fd : FuncData} (F : Def K mg "_row_of_length" s_rowof f fd) (b : Binds K fd ["signs", "table", "at", "ways", "number"] []) : Cal P w K mg base 1 "_row_of_length" spRowOf [] := by
  refine cal0 F b .nil sc_rowof (fun vs H Q E h => ?_) (fun cdv A outer s H vs Q E hr h => ?_)
  · obtain ⟨pt, p, _, _, _, _, _, _, _, _, _, _, rfl, _⟩ := h; rfl
  · obtain ⟨pt, p, sg, ms, f, tg, ra, fl, i0, L, n, was, rfl, hgd, ht, hw, hwl, hL, hi0, hn, k⟩ := h
    refine ⟨_, (pss_cons (ps_set (i := 5) sc_rowof.nd rfl (.inl rfl) pe_str)
      (pss_cons (ps_for PassesOwn.never rfl (pi_revR (by rfl) T.m_reversed (prg_1 (by rfl) T.m_range (pe_op op_sub (pe_callB (lenK K) (by rfl) T.m_len PySem.boot_len (pa_cons (pv 3) pa_nil)) pe_int))) (pg_name (i := 6) sc_rowof.nd rfl (.inl rfl)) 
        (pss_one (ps_for PassesOwn.never rfl (pi_zipX (by rfl) T.m_zip (pa_cons (pv 0) (pa_cons (pe_ix (ixl K) (pv 1) (pv 2) (fun _ _ => rfl)) pa_nil))) (tupK K 2 (pgs_cons (pg_name (i := 7) sc_rowof.nd rfl (.inl rfl)) (pgs_cons (pg_name (i := 8) sc_rowof.nd rfl (.inl rfl)) pgs_nil))) 
          (pss_cons (ps_if (pt_cmpR op_lt (pv 4) (pe_ix (ixl K) (pe_ix (ixl K) (pv 3) (pv 6) (fun _ _ => rfl)) (pv 8) (fun _ _ => rfl)) (nomark _)) 
            (pss_cons (ps_aug (i := 5) sc_rowof.nd rfl (.inl rfl) (pv 7) iop_add_str)
            (pss_cons (ps_set (i := 2) sc_rowof.nd rfl (.inl rfl) (pv 8))
            (pss_one ps_break
            )))
           pss_nil)
          (pss_one (ps_aug (i := 4) sc_rowof.nd rfl (.inl rfl) (pe_ix (ixl K) (pe_ix (ixl K) (pv 3) (pv 6) (fun _ _ => rfl)) (pv 8) (fun _ _ => rfl)) ip_sub)
          )))
        ))
      (pss_one (ps_ret (pv 5))
      ))), ?_⟩
    have h8 := hgd.h8
    have hl3 := hgd.hsg.2.2.1
    have hcl := closed_of hgd
    have hat : ∀ {k : Nat}, k ≤ L → (was.map V.ref)[k]? = some (.ref (was.getD k 0)) ∧ was[k]? = some (was.getD k 0) := fun {k} h => by
      have := getD_get (l := was) (i := k) (by omega)
      exact ⟨by rw [List.getElem?_map, this]; rfl, this⟩
    refine ⟨_, rfl, p, was.map V.ref, rfl, .inl (SqL.of hw.hp), _, _, rfl, rfl, ?_⟩
    refine ⟨_, rfl, ?_⟩
    rw [List.length_map, hwl]
    have eb : (((L + 1 : Nat) : Int) - 1) = (L : Int) := by omega
    refine ⟨by decide, by decide, by show _ ≤ (((L + 1 : Nat) : Int) - 1); omega, by show (((L + 1 : Nat) : Int) - 1) < _; omega, ?_⟩
    have etn : ((((L + 1 : Nat) : Int) - 1) - 0).toNat = L := by omega
    refine for_it walk_rangeC (fun q σ H' => ∃ (u : List Nat) (a n' : Nat) (s6 s7 s8 : Option V), σ = [some (.str (S sg)), some (.ref pt), some (.int a), some (.ref p), some (.int n'), some (.str (S u)), s6, s7, s8] ∧ Same H H' ∧ u.length = q ∧ a < ms.length ∧ n' < cntW fl (lcT ms tg) sg (L - q) a ∧ ∀ x, (accR fl (lcT ms tg) sg (L - q) a)[n']? = some x → (accR fl (lcT ms tg) sg L i0)[n]? = some (u ++ x))
      ⟨[], i0, n, _, _, _, by rw [← s_nil]; rfl, Same.refl _, rfl, hi0, hn, fun x h => h⟩ (fun _ _ _ _ _ => trivial) ?_ ?_
    · rintro q x σ H1 H1' hq ⟨u, a, n', s6, s7, s8, rfl, s1, hul, ha, hn', hx⟩ ⟨rfl, hxv⟩
      have hq : q < L := by rw [← etn]; exact hq
      obtain ⟨lf, hlf⟩ : ∃ lf, L - q = lf + 1 := ⟨L - q - 1, by omega⟩
      have elf : (0 + (((((((L + 1 : Nat) : Int) - 1) - 0).toNat) : Nat) : Int) - 1 + (q : Nat) * (-1)) = (lf : Int) := by rw [etn]; omega
      rw [hlf] at hn' hx
      have ht1 := ht.same s1
      have hw1 := hw.same s1
      have hxa : ms[a]? = some ms[a] := List.getElem?_eq_getElem ha
      have hrow := ht1.2 _ (List.getElem_mem ha)
      rw [tabI_at hxa] at hrow
      have htat : (ms.map fun x => V.ref (ra x))[a]? = some (.ref (ra ms[a])) := by rw [List.getElem?_map, hxa]; rfl
      obtain ⟨g1, g2⟩ := hat (k := lf) (by omega)
      obtain rfl : x = V.int (lf : Int) := hxv.trans (congrArg V.int elf)
      refine ⟨_, rfl, _, rfl, _, rfl, pt, _, _, _, rfl, rfl, SqL.of ht1.1, atI_nat htat, ?_⟩
      have hlsg : (sg.map fun c => V.str (S [c])).length = sg.length := List.length_map _
      have hlrw : (sg.map fun c => V.int (lcT ms tg a c : Nat)).length = sg.length := List.length_map _
      refine ⟨_, _, .txt (S sg), .lst (ra ms[a]), rfl, rfl, rfl, trivial, ⟨_, SqL.of hrow⟩, ?_⟩
      refine for_it (n := min (sg.map fun c => V.str (S [c])).length (sg.map fun c => V.int (lcT ms tg a c : Nat)).length) (walk_zipX (K := K) (S1 := .txt (S sg)) (S2 := .lst (ra ms[a])) (xs := sg.map fun c => V.str (S [c])) (ys := sg.map fun c => V.int (lcT ms tg a c : Nat))) (fun j σ H' => ∃ (m : Nat) (s7 s8 : Option V), σ = [some (.str (S sg)), some (.ref pt), some (.int a), some (.ref p), some (.int m), some (.str (S u)), some (.int lf), s7, s8] ∧ Same H1' H' ∧ (accR fl (lcT ms tg) sg (lf + 1) a)[n']? = (accF fl (lcT ms tg) sg lf a (sg.drop j))[m]? ∧ m < (accF fl (lcT ms tg) sg lf a (sg.drop j)).length)
        ⟨n', _, _, rfl, Same.refl _, rfl, by rw [← acc_len] at hn'; exact hn'⟩ (fun _ σ H' _ ⟨_, _, _, _, s, _⟩ => ⟨rfl, SqL.of (s _ _ hrow)⟩) ?_ ?_
      · rintro j x σ H2 H2' hj ⟨m, s7, s8, rfl, s2, em, hm⟩ hy
        rw [hlsg, hlrw, Nat.min_self] at hj
        obtain ⟨t, x1, x2, rfl, htn, rfl, e1, e2⟩ := hy
        have hc : sg[j]? = some sg[j] := List.getElem?_eq_getElem hj
        have hcs : sg[j] ∈ sg := List.getElem_mem hj
        have hdr : sg.drop j = sg[j] :: sg.drop (j + 1) := List.drop_eq_getElem_cons hj
        generalize sg[j] = c at hc hcs hdr
        have e1 : (sg.map fun c => V.str (S [c]))[j]? = some x1 := e1
        have e2 : (sg.map fun c => V.int (lcT ms tg a c : Nat))[j]? = some x2 := e2
        rw [List.getElem?_map, hc] at e1 e2
        obtain rfl : V.str (S [c]) = x1 := Option.some.inj e1
        obtain rfl : V.int (lcT ms tg a c : Nat) = x2 := Option.some.inj e2
        have s3 : Same H2 (upd H2 t (.tup [.str (S [c]), .int (lcT ms tg a c : Nat)])) := sm_new htn
        have ht3 : (upd H2 t (.tup [.str (S [c]), .int (lcT ms tg a c : Nat)])) t = some (.tup [.str (S [c]), .int (lcT ms tg a c : Nat)]) := upd_same
        generalize upd H2 t (.tup [.str (S [c]), .int (lcT ms tg a c : Nat)]) = H3 at s3 ht3 ⊢
        refine ⟨t, _, rfl, .inl (.inl ht3), rfl, _, _, rfl, _, _, rfl, rfl, ?_⟩
        have s23 := s2.trans s3
        have hw3 := hw1.same s23
        have hcl2 : lcT ms tg a c < ms.length := hcl a c ha hcs
        rw [hdr] at em hm
        have hlf2 : L - (q + 1) = lf := by omega
        refine ⟨_, rfl, _, rfl, _, rfl, p, _, _, _, rfl, rfl, SqL.of hw3.hp, atI_nat g1, ?_⟩
        refine ⟨_, rfl, was.getD lf 0, _, _, .int (cntW fl (lcT ms tg) sg lf (lcT ms tg a c) : Nat), rfl, rfl, SqL.of (hw3.row _ _ g2), atI_nat (wRow_at hcl2), ?_⟩
        refine ⟨_, _, rfl, rfl, _, rfl, ?_⟩
        by_cases hlt : m < cntW fl (lcT ms tg) sg lf (lcT ms tg a c)
        · refine iteB (by rw [decide_eq_true_eq]; omega) ?_
          refine ⟨_, rfl, _, rfl, S u, S [c], rfl, rfl, by rw [S_len, S_len]; exact sz (m := 100) (by show u.length + 1 ≤ 100; omega) (by decide), ?_⟩
          refine ⟨_, rfl, ?_⟩
          rw [S_cat]
          refine ⟨u ++ [c], lcT ms tg a c, m, _, _, _, rfl, s1.trans s23, by rw [List.length_append, hul]; rfl, hcl2, by rw [hlf2]; exact hlt, fun x e => ?_⟩
          rw [hlf2] at e
          rw [List.append_assoc]
          refine hx (c :: x) ?_
          rw [em, accF_hd hlt, e]; rfl
        · refine iteN (by rw [decide_eq_false_iff_not]; omega) ?_
          refine ⟨_, rfl, _, rfl, _, rfl, p, _, _, _, rfl, rfl, SqL.of hw3.hp, atI_nat g1, ?_⟩
          refine ⟨_, rfl, was.getD lf 0, _, _, .int (cntW fl (lcT ms tg) sg lf (lcT ms tg a c) : Nat), rfl, rfl, SqL.of (hw3.row _ _ g2), atI_nat (wRow_at hcl2), ?_⟩
          refine ⟨_, _, rfl, rfl, ?_⟩
          have ei : ((m : Nat) : Int) - ((cntW fl (lcT ms tg) sg lf (lcT ms tg a c) : Nat) : Int) = ((m - cntW fl (lcT ms tg) sg lf (lcT ms tg a c) : Nat) : Int) := by omega
          refine ⟨m - cntW fl (lcT ms tg) sg lf (lcT ms tg a c), _, _, by rw [← ei]; rfl, s23, by rw [em, accF_tl (by omega)], ?_⟩
          have e3 : (accF fl (lcT ms tg) sg lf a (c :: sg.drop (j + 1))).length = cntW fl (lcT ms tg) sg lf (lcT ms tg a c) + (accF fl (lcT ms tg) sg lf a (sg.drop (j + 1))).length := by
            rw [accF_len, accF_len, List.map_cons, List.sum_cons]
          omega
      · rintro σ H2 ⟨m, s7, s8, rfl, s2, em, hm⟩
        rw [hlsg, hlrw, Nat.min_self, List.drop_length] at hm
        exact absurd hm (Nat.not_lt_zero _)
    · rintro σ H1 ⟨u, a, n', s6, s7, s8, rfl, s1, hul, ha, hn', hx⟩
      have e0 : L - ((((L + 1 : Nat) : Int) - 1) - 0).toNat = 0 := by omega
      rw [e0] at hn' hx
      have : (accR fl (lcT ms tg) sg L i0)[n]? = some (u ++ []) := hx [] (by
        have h : n' < (accR fl (lcT ms tg) sg 0 a).length := by rw [acc_len]; exact hn'
        unfold accR at h ⊢
        split
        · rename_i hf
          rw [if_pos hf] at h
          obtain rfl : n' = 0 := by simpa using h
          rfl
        · rename_i hf
          rw [if_neg hf] at h
          cases h)
      rw [List.append_nil] at this
      exact ⟨_, rfl, k H1 u s1 this⟩
end
end Toy
set_option maxHeartbeats 4000000
namespace LX
open PySem PySem.Spec PyProof.Rows L2 C8 SX
theorem yesT {p q : Hp → Prop} {σ : L2.St} {H : Hp} (h : p H) : tYes σ H fun b H3 => if b = true then p H3 else q H3 := h
theorem li_it {J1 : It} {n : Nat} {G : Hp → Prop} {Y : Nat → Hp → V → Hp → Prop} (w : Walk J1 n G Y) {g1 : TG} {tt1 : TT} {te : TE} {vs1 : List Nat} {σ2 : L2.St} {H4 : Hp} {D : Addr} {Nx : Hp → Prop} (Pv : Nat → Hp → Prop) (h0 : Pv 0 H4) (hG : ∀ i H, i ≤ n → Pv i H → G H)
    (hs : ∀ j x H H', j < n → Pv j H → Y j H x H' → g1 x (wipe σ2 vs1) H' fun σ3 H5 => wipe σ3 vs1 = wipe σ2 vs1 ∧ tt1 σ3 H5 fun b H6 => if b = true then te σ3 H6 fun y H7 => ∃ acc, H7 D = some (.lst acc) ∧ acc.length < sizeLine ∧ Pv (j + 1) (upd H7 D (.lst (acc ++ [y]))) else Pv (j + 1) H6)
    (hd : ∀ H, Pv n H → Nx H) :
    ∃ W1 : Nat → Nat → Hp → Prop, (∃ m, W1 0 m H4) ∧ ∀ j k H, W1 j k H →
      (J1.stop j H ∧ Nx H) ∨ (J1.go j H ∧ ∃ Nx1 : Hp → Prop, (∀ H', Nx1 H' → ∃ k', k' < k ∧ W1 (j + 1) k' H') ∧ ∀ x H', J1.yld j H x H' → g1 x (wipe σ2 vs1) H' fun σ3 H5 => wipe σ3 vs1 = wipe σ2 vs1 ∧ tt1 σ3 H5 fun b H6 =>
        if b = true then te σ3 H6 fun y H7 => ∃ acc, H7 D = some (.lst acc) ∧ acc.length < sizeLine ∧ Nx1 (upd H7 D (.lst (acc ++ [y]))) else Nx1 H6) := by
  refine ⟨fun i m H => m = n - i ∧ i ≤ n ∧ Pv i H, ⟨n, by simp, Nat.zero_le _, h0⟩, ?_⟩
  rintro i m H ⟨rfl, hi, p⟩
  have q := hG i H hi p
  by_cases hlt : i < n
  · exact .inr ⟨w.goes i H hlt q, Pv (i + 1), fun H' p' => ⟨n - (i + 1), by omega, rfl, hlt, p'⟩, fun x H' y => hs i x H H' hlt p (w.yields i H x H' hlt q y)⟩
  · have e : i = n := by omega
    subst e
    exact .inl ⟨w.stops H q, hd H p⟩
theorem lc2_it {J : It} {n : Nat} {G : Hp → Prop} {Y : Nat → Hp → V → Hp → Prop} (w : Walk J n G Y) {g : TG} {tt : TT} {wi1 : TI} {g1 : TG} {tt1 : TT} {te : TE} {vs vs1 : List Nat} {σ : L2.St} {H1 : Hp} {D : Addr} {Qd : Hp → Prop} (Pv : Nat → Hp → Prop) (h0 : Pv 0 (upd H1 D (.lst []))) (hG : ∀ i H, i ≤ n → Pv i H → G H)
    (hs : ∀ i x H H', i < n → Pv i H → Y i H x H' → g x (wipe σ vs) H' fun σ2 H2 => wipe σ2 vs = wipe σ vs ∧ tt σ2 H2 fun b H3 =>
      if b = true then wi1 σ2 H3 fun J1 H4 => ∃ W1 : Nat → Nat → Hp → Prop, (∃ m, W1 0 m H4) ∧ ∀ j k H, W1 j k H →
        (J1.stop j H ∧ Pv (i + 1) H) ∨ (J1.go j H ∧ ∃ Nx1 : Hp → Prop, (∀ H', Nx1 H' → ∃ k', k' < k ∧ W1 (j + 1) k' H') ∧ ∀ x H', J1.yld j H x H' → g1 x (wipe σ2 vs1) H' fun σ3 H5 => wipe σ3 vs1 = wipe σ2 vs1 ∧ tt1 σ3 H5 fun b H6 =>
          if b = true then te σ3 H6 fun y H7 => ∃ acc, H7 D = some (.lst acc) ∧ acc.length < sizeLine ∧ Nx1 (upd H7 D (.lst (acc ++ [y]))) else Nx1 H6)
      else Pv (i + 1) H3) (hd : ∀ H, Pv n H → Qd H) :
    ∃ W : Nat → Nat → Hp → Prop, (∃ m, W 0 m (upd H1 D (.lst []))) ∧ ∀ i m H, W i m H →
      (J.stop i H ∧ Qd H) ∨ (J.go i H ∧ ∃ Nx : Hp → Prop, (∀ H', Nx H' → ∃ m', m' < m ∧ W (i + 1) m' H') ∧ ∀ x H', J.yld i H x H' → g x (wipe σ vs) H' fun σ2 H2 => wipe σ2 vs = wipe σ vs ∧ tt σ2 H2 fun b H3 =>
        if b = true then wi1 σ2 H3 fun J1 H4 => ∃ W1 : Nat → Nat → Hp → Prop, (∃ m, W1 0 m H4) ∧ ∀ j k H, W1 j k H →
          (J1.stop j H ∧ Nx H) ∨ (J1.go j H ∧ ∃ Nx1 : Hp → Prop, (∀ H', Nx1 H' → ∃ k', k' < k ∧ W1 (j + 1) k' H') ∧ ∀ x H', J1.yld j H x H' → g1 x (wipe σ2 vs1) H' fun σ3 H5 => wipe σ3 vs1 = wipe σ2 vs1 ∧ tt1 σ3 H5 fun b H6 =>
            if b = true then te σ3 H6 fun y H7 => ∃ acc, H7 D = some (.lst acc) ∧ acc.length < sizeLine ∧ Nx1 (upd H7 D (.lst (acc ++ [y]))) else Nx1 H6)
        else Nx H3) := by
  refine ⟨fun i m H => m = n - i ∧ i ≤ n ∧ Pv i H, ⟨n, by simp, Nat.zero_le _, h0⟩, ?_⟩
  rintro i m H ⟨rfl, hi, p⟩
  have q := hG i H hi p
  by_cases hlt : i < n
  · exact .inr ⟨w.goes i H hlt q, Pv (i + 1), fun H' p' => ⟨n - (i + 1), by omega, rfl, hlt, p'⟩, fun x H' y => hs i x H H' hlt p (w.yields i H x H' hlt q y)⟩
  · have e : i = n := by omega
    subst e
    exact .inl ⟨w.stops H q, hd H p⟩
end LX
set_option maxHeartbeats 4000000
namespace Toy
open PySem L2 C8 SX LX
section
variable {P : Program} {w : World} {K : PySem.W.Frag} {mg : Str → Option Value} {base : Heap}
def Lyr (lc : Nat → Nat → Nat) (sg : List Nat) (i0 q : Nat) (xs : List Nat) : Prop := xs.Pairwise (· < ·) ∧ ∀ j, j ∈ xs ↔ ∃ w : List Nat, w.length = q ∧ Ov sg w ∧ w.foldl lc i0 = j
theorem lyr_zero {lc : Nat → Nat → Nat} {sg : List Nat} {i0 : Nat} : Lyr lc sg i0 0 [i0] := ⟨List.pairwise_singleton _ _, fun j => by
  rw [List.mem_singleton]
  constructor
  · rintro rfl; exact ⟨[], rfl, fun _ h => (nomatch h), rfl⟩
  · rintro ⟨w, h1, _, h3⟩
    rw [List.length_eq_zero_iff.mp h1] at h3
    exact h3.symm⟩
theorem lyr_next {lc : Nat → Nat → Nat} {sg : List Nat} {i0 q : Nat} {xs ys : List Nat} (h : Lyr lc sg i0 q xs) (hy : ys.Pairwise (· < ·)) (hm : ∀ j, j ∈ ys ↔ j ∈ xs.flatMap fun t => sg.map fun c => lc t c) : Lyr lc sg i0 (q + 1) ys := ⟨hy, fun j => by
  rw [hm, List.mem_flatMap]
  constructor
  · rintro ⟨t, ht, hj⟩
    obtain ⟨c, hc, rfl⟩ := List.mem_map.mp hj
    obtain ⟨w, h1, h2, rfl⟩ := (h.2 t).mp ht
    refine ⟨w ++ [c], by rw [List.length_append, h1]; rfl, fun d hd => ?_, by rw [List.foldl_append]; rfl⟩
    rcases List.mem_append.mp hd with hd | hd
    · exact h2 d hd
    · rw [List.mem_singleton.mp hd]; exact hc
  · rintro ⟨w, h1, h2, rfl⟩
    rcases List.eq_nil_or_concat w with rfl | ⟨u, c, rfl⟩
    · simp at h1
    · rw [List.concat_eq_append] at h1 h2 ⊢
      refine ⟨u.foldl lc i0, (h.2 _).mpr ⟨u, by simpa using h1, fun d hd => h2 d (List.mem_append_left _ hd), rfl⟩, List.mem_map.mpr ⟨c, h2 c (List.mem_append_right _ List.mem_cons_self), by rw [List.foldl_append]; rfl⟩⟩⟩
theorem lyr_any {fl : Nat → Bool} {lc : Nat → Nat → Nat} {sg : List Nat} {i0 q : Nat} {xs : List Nat} (h : Lyr lc sg i0 q xs) : (xs.map fl).any id = decide (0 < cntW fl lc sg q i0) := by
  rw [Bool.eq_iff_iff, decide_eq_true_eq, cnt_pos, List.any_eq_true]
  constructor
  · rintro ⟨b, hb, e⟩
    obtain ⟨j, hj, rfl⟩ := List.mem_map.mp hb
    obtain ⟨w, h1, h2, rfl⟩ := (h.2 j).mp hj
    exact ⟨w, h1, h2, e⟩
  · rintro ⟨w, h1, h2, h3⟩
    exact ⟨_, List.mem_map.mpr ⟨_, (h.2 _).mpr ⟨w, h1, h2, rfl⟩, rfl⟩, h3⟩
theorem lyr_lt {lc : Nat → Nat → Nat} {sg : List Nat} {N i0 q : Nat} {xs : List Nat} (hl : Closed lc sg N) (hi : i0 < N) (h : Lyr lc sg i0 q xs) : ∀ j ∈ xs, j < N := fun j hj => by
  obtain ⟨w, _, h2, rfl⟩ := (h.2 j).mp hj
  exact fold_lt hl h2 hi
theorem lyr_len {lc : Nat → Nat → Nat} {sg : List Nat} {N i0 q : Nat} {xs : List Nat} (hl : Closed lc sg N) (hi : i0 < N) (h : Lyr lc sg i0 q xs) : xs.length ≤ N := by
  have := UW.sub_len (List.range N) xs (h.1.imp fun h => Nat.ne_of_lt h) fun x hx => List.mem_range.mpr (lyr_lt hl hi h x hx)
  rwa [List.length_range] at this
def optI : Option Nat → V
  | none => .non
  | some l => .int (l : Nat)
def lngV : Lng → V
  | .no => .non
  | .fin l => .int (l : Nat)
  | .inf => .str (Str.ofString "endless")
theorem fm_len {g : Nat → Nat → Nat} (sg : List Nat) : ∀ l : List Nat, (l.flatMap fun t => sg.map fun c => g t c).length = l.length * sg.length
  | [] => by simp
  | r :: l => by rw [List.flatMap_cons, List.length_append, fm_len sg l, List.length_map, List.length_cons, Nat.add_mul]; omega
theorem ss_step {Ds : Ends} {pt m : Addr} {a1 a2 a4 a5 a6 a7 : Option V} {sg : List Nat} {ms : List (List Nat)} {f : List Nat} {tg : List Nat → Nat → List Nat} {ra : List Nat → Addr} {H : Hp} {i0 q : Nat} {xs : List Nat} (hgd : Good sg ms f tg) (ht : TabL sg ms tg pt ra H) (hi0 : i0 < ms.length) (hm : H m = some (.lst (xs.map fun k => V.int (k : Nat)))) (hL : Lyr (lcT ms tg) sg i0 q xs)
    (k : ∀ (p : Addr) (ys : List Nat) (H' : Hp), Same H H' → H' p = some (.lst (ys.map fun k => V.int (k : Nat))) → Lyr (lcT ms tg) sg i0 (q + 1) ys → Ds.nx [some (.ref pt), a1, a2, some (.ref p), a4, a5, a6, a7] H') :
    tAsg (tSortSetI K (tLc2 (iList K (tVar 3)) (gName 6) tYes (iList K (tOp (rIxL K) (tVar 0) (tVar 6))) (gName 7) tYes (tVar 7) [6, 7] [7])) (gName 3) Ds [some (.ref pt), a1, a2, some (.ref m), a4, a5, a6, a7] H := by
  have h8 := hgd.h8
  have hl3 := hgd.hsg.2.2.1
  have hcl := closed_of hgd
  have hxl := lyr_len hcl hi0 hL
  have hlx : (xs.map fun k => V.int (k : Nat)).length = xs.length := List.length_map _
  refine ⟨_, rfl, m, rfl, ⟨_, SqL.of hm⟩, fun D hD => ?_⟩
  refine lc2_it (walk_list (K := K) (a := m) (xs := xs.map fun k => V.int (k : Nat))) (fun i H' => Same H H' ∧ H' D = some (.lst (((xs.take i).flatMap fun t => sg.map fun c => lcT ms tg t c).map fun k => V.int (k : Nat))))
    ⟨sm_new hD, upd_same⟩ (fun i H' _ ⟨s, _⟩ => SqL.of (s _ _ hm)) (fun i x H2 H2' hi ⟨s2, e2⟩ hy => ?_) (fun H2 ⟨s2, e2⟩ => ?_)
  · obtain ⟨rfl, ex⟩ := hy
    rw [hlx] at hi
    have hx : xs[i]? = some xs[i] := List.getElem?_eq_getElem hi
    have ht' : xs[i] < ms.length := lyr_lt hcl hi0 hL _ (List.getElem_mem hi)
    generalize xs[i] = t at hx ht'
    rw [List.getElem?_map, hx] at ex
    obtain rfl : V.int (t : Nat) = x := Option.some.inj ex
    have ht2 := ht.same s2
    have hmt : ms[t]? = some ms[t] := List.getElem?_eq_getElem ht'
    have hrow0 := ht.2 _ (List.getElem_mem ht')
    rw [tabI_at hmt] at hrow0
    have hrow := s2 _ _ hrow0
    have htat : (ms.map fun x => V.ref (ra x))[t]? = some (.ref (ra ms[t])) := by rw [List.getElem?_map, hmt]; rfl
    have hlen := fm_len (g := lcT ms tg) sg (xs.take i)
    rw [List.length_take] at hlen
    refine ⟨rfl, yesT ?_⟩
    refine ⟨_, rfl, _, rfl, pt, _, _, _, rfl, rfl, SqL.of ht2.1, atI_nat htat, ra ms[t], rfl, ⟨_, SqL.of hrow⟩, ?_⟩
    refine li_it (walk_list (K := K) (a := ra ms[t]) (xs := sg.map fun c => V.int (lcT ms tg t c : Nat))) (fun j H' => Same H H' ∧ H' D = some (.lst ((((xs.take i).flatMap fun t => sg.map fun c => lcT ms tg t c) ++ (sg.take j).map fun c => lcT ms tg t c).map fun k => V.int (k : Nat))))
      ⟨s2, by rw [List.take_zero, List.map_nil, List.append_nil]; exact e2⟩ (fun j H' _ ⟨s, _⟩ => SqL.of (s _ _ hrow0)) (fun j y H3 H3' hj ⟨s3', e3⟩ hy => ?_) (fun H3 ⟨s3', e3⟩ => ?_)
    · obtain ⟨rfl, ey⟩ := hy
      rw [List.length_map] at hj
      have hc : sg[j]? = some sg[j] := List.getElem?_eq_getElem hj
      rw [List.getElem?_map, hc] at ey
      obtain rfl := Option.some.inj ey
      have htk : sg.take (j + 1) = sg.take j ++ [sg[j]] := take_more hc
      generalize sg[j] = c at htk ⊢
      refine ⟨rfl, yesT ?_⟩
      refine ⟨_, rfl, _, e3, ?_, sm_put s3' hD, ?_⟩
      · rw [List.length_map, List.length_append, hlen, List.length_map, List.length_take]
        have : min i xs.length * sg.length ≤ 8 * 3 := Nat.mul_le_mul (by omega) hl3
        exact small1000 (by omega)
      · rw [upd_same, htk]
        simp only [List.map_append, List.map_cons, List.map_nil, List.append_assoc]
    · rw [List.length_map, List.take_length] at e3
      refine ⟨s3', ?_⟩
      rw [take_more hx, List.flatMap_append, List.flatMap_singleton]
      exact e3
  · rw [hlx, List.take_length] at e2
    have hlen := fm_len (g := lcT ms tg) sg xs
    generalize hfl : (xs.flatMap fun t => sg.map fun c => lcT ms tg t c) = fx at e2 hlen
    have emap : (fx.map fun k => V.int (k : Nat)) = (fx.map fun (k : Nat) => (k : Int)).map V.int := by rw [List.map_map]; rfl
    refine ⟨D, fx.map fun (k : Nat) => (k : Int), rfl, SqL.of (by rw [← emap]; exact e2), ?_, fun p zs hp hs hmem => ?_⟩
    · rw [List.length_map, hlen]
      have : xs.length * sg.length ≤ 8 * 3 := Nat.mul_le_mul (by omega) hl3
      omega
    · have hnn : ∀ z ∈ zs, z = ((z.toNat : Nat) : Int) := fun z hz => by
        obtain ⟨k, _, rfl⟩ := List.mem_map.mp ((hmem z).mp hz)
        rfl
      have ez : zs = (zs.map Int.toNat).map fun (k : Nat) => (k : Int) := by
        rw [List.map_map]
        conv => lhs; rw [← List.map_id zs]
        exact List.map_congr_left hnn
      have epz : (upd H2 p (.lst (zs.map V.int))) p = some (.lst ((zs.map Int.toNat).map fun k => V.int (k : Nat))) := by
        rw [upd_same]
        conv => lhs; rw [ez, List.map_map]
        rfl
      refine k p (zs.map Int.toNat) _ (s2.trans (sm_new hp)) epz (lyr_next hL ?_ fun j => ?_)
      · rw [List.pairwise_map]
        refine hs.imp_of_mem fun {a b} ha hb h => ?_
        have := hnn a ha
        have := hnn b hb
        omega
      · rw [hfl]
        constructor
        · intro hj
          obtain ⟨z, hz, rfl⟩ := List.mem_map.mp hj
          obtain ⟨k, hk, rfl⟩ := List.mem_map.mp ((hmem z).mp hz)
          exact hk
        · intro hj
          exact List.mem_map.mpr ⟨(j : Int), (hmem _).mpr (List.mem_map.mpr ⟨j, hj, rfl⟩), rfl⟩
abbrev s_lfrom : Stmt := top 34
abbrev n_lfrom : List Str := ["table", "first", "flags", "marks", "most", "length", "mark", "target"]
theorem sc_lfrom : FnScope n_lfrom ["table", "first", "flags"] (fnScope s_lfrom) := fnScope_by (by decide +kernel)
def spLFrom : Sp := fun vs H Q _ => ∃ (pt pf : Addr) (sg : List Nat) (ms : List (List Nat)) (f : List Nat) (tg : List Nat → Nat → List Nat) (ra : List Nat → Addr) (fl : Nat → Bool) (i0 : Nat), vs = [.ref pt, .int i0, .ref pf] ∧ Good sg ms f tg ∧ TabL sg ms tg pt ra H ∧ H pf = some (.lst (flV fl ms.length)) ∧ i0 < ms.length ∧
  ∀ (H' : Hp), Same H H' → Q (lngV (lngP fl (lcT ms tg) sg ms.length i0)) H'
theorem ok_lfrom (T : BT mg) {f : Addr} {fd : FuncData} (F : Def K mg "longest_from" s_lfrom f fd) (b : Binds K fd ["table", "first", "flags"] []) : Cal P w K mg base 1 "longest_from" spLFrom [] := by
  refine cal0 F b .nil sc_lfrom (fun vs H Q E h => ?_) (fun cdv A outer s H vs Q E hr h => ?_)
  · obtain ⟨pt, pf, _, _, _, _, _, _, _, rfl, _⟩ := h; rfl
  · obtain ⟨pt, pf, sg, ms, f, tg, ra, fl, i0, rfl, hgd, ht, hf, hi0, k⟩ := h
    refine ⟨_, (pss_cons (ps_set (i := 3) sc_lfrom.nd rfl (.inl rfl) (pe_lst (pa_cons (pv 1) pa_nil)))
      (pss_cons (ps_set (i := 4) sc_lfrom.nd rfl (.inl rfl) pe_non)
      (pss_cons (ps_for PassesOwn.never rfl (pi_range1 (by rfl) T.m_range (pa_cons (pe_op op_mul pe_int (pe_callB (lenK K) (by rfl) T.m_len PySem.boot_len (pa_cons (pv 0) pa_nil))) pa_nil)) (pg_name (i := 5) sc_lfrom.nd rfl (.inl rfl)) 
        (pss_cons (ps_if (pt_val (pe_callB (anyK K rfl) (by rfl) T.m_any PyProof.Rows.boot_any (pa_cons (pe_lc (own := [("mark", 6)]) rfl sc_lfrom.nd (pi_list (pv 3)) (blkOk_by (N := n_lfrom) (sc := fnScope s_lfrom) (by decide +kernel)) (fun _ _ _ _ _ => (pg_name (i := 6) sc_lfrom.nd rfl (.inl rfl))) (fun _ _ _ _ _ => pts_nil) (fun _ _ _ _ _ => (pe_ix (ixl K) (pv 2) (pv 6) (fun _ _ => rfl)))) pa_nil))) 
          (pss_one (ps_set (i := 4) sc_lfrom.nd rfl (.inl rfl) (pv 5))
          )
         pss_nil)
        (pss_one (ps_set (i := 3) sc_lfrom.nd rfl (.inl rfl) (pe_sortSetI rfl (by rfl) T.m_sorted (by rfl) T.m_set (pe_lc2 (own := [("mark", 6), ("target", 7)]) (vs1 := [7]) rfl sc_lfrom.nd (pi_list (pv 3)) (blkOk_by (N := n_lfrom) (sc := fnScope s_lfrom) (by decide +kernel)) (by decide) (fun _ _ _ _ _ => (pg_name (i := 6) sc_lfrom.nd rfl (.inl rfl))) (fun _ _ _ _ _ => pts_nil) (fun _ _ _ _ _ => (pi_listK K (pe_ix (ixl K) (pv 0) (pv 6) (fun _ _ => rfl)))) (fun _ _ _ _ _ => (pg_name (i := 7) sc_lfrom.nd rfl (.inl rfl))) (fun _ _ _ _ _ => pts_nil) (fun _ _ _ _ _ => (pv 7)))))
        )))
      (pss_cons (ps_if (PW.pt (pw_and (pt_cmpR op_notN (pv 4) pe_non (nomark _)) (pw_and1 (pt_cmpR op_ge (pv 4) (pe_callB (lenK K) (by rfl) T.m_len PySem.boot_len (pa_cons (pv 0) pa_nil)) (nomark _))))) 
        (pss_one (ps_ret pe_str)
        )
       pss_nil)
      (pss_one (ps_ret (pv 4))
      ))))), ?_⟩
    have h8 := hgd.h8
    have hl3 := hgd.hsg.2.2.1
    have hcl := closed_of hgd
    have hmapl : (ms.map fun x => V.ref (ra x)).length = ms.length := List.length_map _
    have hlf : (flV fl ms.length).length = ms.length := by unfold flV; rw [List.length_map, List.length_range]
    refine ⟨_, rfl, by show 1 ≤ sizeLine; decide, fun p0 hp0 => ?_⟩
    have s0 : Same H (upd H p0 (.lst [.int (i0 : Nat)])) := sm_new hp0
    have e0 : (upd H p0 (.lst [.int (i0 : Nat)])) p0 = some (.lst [.int (i0 : Nat)]) := upd_same
    generalize upd H p0 (.lst [.int (i0 : Nat)]) = H0 at s0 e0 ⊢
    refine ⟨_, rfl, pt, _, rfl, .inl (SqL.of (s0 _ _ ht.1)), _, _, rfl, rfl, ?_⟩
    rw [hmapl]
    refine ⟨.inl ⟨by decide, by decide⟩, (2 * (ms.length : Int)), rfl, by omega, by omega, ?_⟩
    have htn : (2 * (ms.length : Int)).toNat = 2 * ms.length := by omega
    refine for_it (walk_range (lo := 0) (n := (2 * (ms.length : Int)).toNat)) (fun q σ H' => ∃ (m : Addr) (xs : List Nat) (s5 s6 s7 : Option V), σ = [some (.ref pt), some (.int i0), some (.ref pf), some (.ref m), some (optI (lastW fl (lcT ms tg) sg i0 q)), s5, s6, s7] ∧ Same H H' ∧ H' m = some (.lst (xs.map fun k => V.int (k : Nat))) ∧ Lyr (lcT ms tg) sg i0 q xs)
      ⟨p0, [i0], _, _, _, rfl, s0, e0, lyr_zero⟩ (fun _ _ _ _ _ => trivial) ?_ ?_
    · rintro q x σ H1 H1' hq ⟨m, xs, s5, s6, s7, rfl, s1, hm, hL⟩ ⟨rfl, hxv⟩
      obtain rfl : x = V.int (q : Int) := hxv.trans (congrArg V.int (by omega))
      have hlx : (xs.map fun k => V.int (k : Nat)).length = xs.length := List.length_map _
      have hxl := lyr_len hcl hi0 hL
      refine ⟨_, rfl, m, rfl, ⟨_, SqL.of hm⟩, fun D hD => ?_⟩
      refine lc_keep keep_same (walk_list (K := K) (a := m) (xs := xs.map fun k => V.int (k : Nat))) hD (by rw [hlx]; exact small1000 (by omega)) (fun j y => ∀ t, xs[j]? = some t → y = .bl (fl t)) (fun H r => SqL.of (r _ _ hm)) (fun i x H2 H3 R hi r hy hR => ?_) (fun ys H2 hly hg r hDs => ?_)
      · obtain ⟨rfl, ex⟩ := hy
        rw [hlx] at hi
        have hx : xs[i]? = some xs[i] := List.getElem?_eq_getElem hi
        have ht' : xs[i] < ms.length := lyr_lt hcl hi0 hL _ (List.getElem_mem hi)
        generalize xs[i] = t at hx ht'
        rw [List.getElem?_map, hx] at ex
        obtain rfl : V.int (t : Nat) = x := Option.some.inj ex
        refine ⟨rfl, ?_⟩
        refine ⟨_, rfl, _, rfl, pf, _, _, .bl (fl t), rfl, rfl, SqL.of (r _ _ (s1 _ _ hf)), atI_nat (by unfold flV; rw [List.getElem?_map, List.getElem?_range ht']; rfl), ?_⟩
        exact hR _ _ (Same.refl _) fun t' e => by rw [hx] at e; obtain rfl := Option.some.inj e; rfl
      · rw [hlx] at hly
        have ez : ys = (xs.map fl).map V.bl := by rw [List.map_map]; exact list_map hly fun j y t e1 e2 => hg j y e1 t e2
        subst ez
        refine ⟨D, xs.map fl, rfl, SqL.of hDs, ?_⟩
        rw [lyr_any hL]
        have s2 := s1.trans r
        have hm2 := r _ _ hm
        refine ⟨_, rfl, ?_⟩
        by_cases hz : 0 < cntW fl (lcT ms tg) sg q i0
        · refine iteB (decide_eq_true hz) ⟨_, rfl, ?_⟩
          have e1 : lastW fl (lcT ms tg) sg i0 (q + 1) = some q := by
            show (if 0 < cntW fl (lcT ms tg) sg q i0 then some q else lastW fl (lcT ms tg) sg i0 q) = _
            rw [if_pos hz]
          refine ss_step hgd (ht.same s2) hi0 hm2 hL fun p ys H3 s3 hp hL' => ?_
          exact ⟨p, ys, _, _, _, by rw [e1]; rfl, s2.trans s3, hp, hL'⟩
        · refine iteN (decide_eq_false hz) ?_
          have e1 : lastW fl (lcT ms tg) sg i0 (q + 1) = lastW fl (lcT ms tg) sg i0 q := by
            show (if 0 < cntW fl (lcT ms tg) sg q i0 then some q else lastW fl (lcT ms tg) sg i0 q) = _
            rw [if_neg hz]
          refine ss_step hgd (ht.same s2) hi0 hm2 hL fun p ys H3 s3 hp hL' => ?_
          exact ⟨p, ys, _, _, _, by rw [e1], s2.trans s3, hp, hL'⟩
    · rintro σ H1 ⟨m, xs, s5, s6, s7, rfl, s1, hm, hL⟩
      rw [htn]
      unfold lngP at k
      cases e : lastW fl (lcT ms tg) sg i0 (2 * ms.length) with
      | none =>
        rw [e] at k
        refine ⟨_, rfl, rfl, false, rfl, iteN rfl (iteN rfl ?_)⟩
        exact ⟨_, rfl, k H1 s1⟩
      | some l =>
        rw [e] at k
        refine ⟨_, rfl, rfl, true, rfl, iteB rfl ?_⟩
        refine ⟨_, rfl, _, rfl, pt, _, rfl, .inl (SqL.of (s1 _ _ ht.1)), _, _, rfl, rfl, _, rfl, ?_⟩
        rw [hmapl]
        have et : lngT ms.length (some l) = if ms.length ≤ l then .inf else .fin l := rfl
        rw [et] at k
        by_cases h : ms.length ≤ l
        · rw [if_pos h] at k
          exact iteB (by rw [decide_eq_true_eq]; omega) (k H1 s1)
        · rw [if_neg h] at k
          refine iteN (by rw [decide_eq_false_iff_not]; omega) ?_
          exact ⟨_, rfl, k H1 s1⟩
end
end Toy
set_option maxHeartbeats 4000000
namespace Toy
open PySem L2 C8 SX LX
section
variable {P : Program} {w : World} {K : PySem.W.Frag} {mg : Str → Option Value} {base : Heap}
abbrev s_numd : Stmt := top 35
abbrev n_numd : List Str := ["signs", "table", "first", "flags", "number", "last", "ways"]
theorem sc_numd : FnScope n_numd ["signs", "table", "first", "flags", "number"] (fnScope s_numd) := fnScope_by (by decide +kernel)
def spNumd : Sp := fun vs H Q _ => ∃ (pt pf : Addr) (sg : List Nat) (ms : List (List Nat)) (f : List Nat) (tg : List Nat → Nat → List Nat) (ra : List Nat → Addr) (fl : Nat → Bool) (i0 n : Nat), vs = [.str (S sg), .ref pt, .int i0, .ref pf, .int n] ∧ Good sg ms f tg ∧ TabL sg ms tg pt ra H ∧ H pf = some (.lst (flV fl ms.length)) ∧ i0 < ms.length ∧
  ((∃ M v, M ≤ 65 ∧ (allR fl (lcT ms tg) sg i0 M)[n]? = some v ∧ ∀ (H' : Hp), Same H H' → Q (.str (S v)) H') ∨ ((∀ L, totW fl (lcT ms tg) sg i0 L ≤ n) ∧ lngP fl (lcT ms tg) sg ms.length i0 ≠ .inf ∧ ∀ (H' : Hp), Same H H' → Q .non H'))
theorem ok_numd (T : BT mg) (c_lfrom : Cal P w K mg base 1 "longest_from" spLFrom []) (c_ways : Cal P w K mg base 2 "ways_by_length" spWays []) (c_ahead : Cal P w K mg base 1 "_ways_ahead" spAhead []) (c_rowof : Cal P w K mg base 1 "_row_of_length" spRowOf []) {f : Addr} {fd : FuncData} (F : Def K mg "row_numbered" s_numd f fd) (b : Binds K fd ["signs", "table", "first", "flags", "number"] []) : Cal P w K mg base 3 "row_numbered" spNumd [] := by
  refine cal0 F b .nil sc_numd (fun vs H Q E h => ?_) (fun cdv A outer s H vs Q E hr h => ?_)
  · obtain ⟨pt, pf, _, _, _, _, _, _, _, _, rfl, _⟩ := h; rfl
  · obtain ⟨pt, pf, sg, ms, f, tg, ra, fl, i0, n, rfl, hgd, ht, hf, hi0, hk⟩ := h
    refine ⟨_, (pss_cons (ps_set (i := 5) sc_numd.nd rfl (.inl rfl) (pe_c c_lfrom hr (by first | decide | omega) (by rfl) (pa_cons (pv 1) (pa_cons (pv 2) (pa_cons (pv 3) pa_nil)))))
      (pss_cons (ps_set (i := 6) sc_numd.nd rfl (.inl rfl) (pe_c c_ways hr (by first | decide | omega) (by rfl) (pa_cons (pv 1) (pa_cons (pv 3) (pa_cons pe_int pa_nil)))))
      (pss_cons (ps_while PassesOwn.never (pt_cmpR op_notN (pv 5) pe_non (nomark _)) 
        (pss_cons (ps_if (pt_cmpR op_lt (pv 4) (pe_ix (ixl K) (pe_ix (ixl K) (pv 6) (pe_un un_neg pe_int) (fun _ _ => rfl)) (pv 2) (fun _ _ => rfl)) (nomark _)) 
          (pss_one (ps_ret (pe_c c_rowof hr (by first | decide | omega) (by rfl) (pa_cons (pv 0) (pa_cons (pv 1) (pa_cons (pv 2) (pa_cons (pv 6) (pa_cons (pv 4) pa_nil)))))))
          )
         pss_nil)
        (pss_cons (ps_if (pt_cmpR op_eq (pv 5) (pe_op op_sub (pe_callB (lenK K) (by rfl) T.m_len PySem.boot_len (pa_cons (pv 6) pa_nil)) pe_int) (nomark _)) 
          (pss_one (ps_ret pe_non)
          )
         pss_nil)
        (pss_cons (ps_aug (i := 4) sc_numd.nd rfl (.inl rfl) (pe_ix (ixl K) (pe_ix (ixl K) (pv 6) (pe_un un_neg pe_int) (fun _ _ => rfl)) (pv 2) (fun _ _ => rfl)) ip_sub)
        (pss_one (ps_expr (pe_bm PySem.F.plainAttrs_list PySem.F.slot_list_append PySem.F.type_list_append mt_append (pv 6) (pa_cons (pe_c c_ahead hr (by first | decide | omega) (by rfl) (pa_cons (pv 1) (pa_cons (pe_ix (ixl K) (pv 6) (pe_un un_neg pe_int) (fun _ _ => rfl)) pa_nil))) pa_nil)))
        )))))
      (pss_one (ps_ret pe_non)
      )))), ?_⟩
    have h8 := hgd.h8
    have hl3 := hgd.hsg.2.2.1
    have hcl := closed_of hgd
    refine ⟨_, rfl, _, rfl, _, rfl, pt, pf, sg, ms, f, tg, ra, fl, i0, rfl, hgd, ht, hf, hi0, fun H1 s1 => ?_⟩
    refine ⟨_, rfl, _, rfl, pt, pf, sg, ms, f, tg, ra, fl, 0, rfl, hgd, ht.same s1, s1 _ _ hf, by decide, fun p was0 H2 s2 n2 hw0 hwl0 => ?_⟩
    have s02 := s1.trans s2
    have hpH : H p = none := by
      cases e : H p with
      | none => rfl
      | some o => rw [s1 _ _ e] at n2; cases n2
    generalize hlg : lngP fl (lcT ms tg) sg ms.length i0 = lg at *
    refine ⟨fun m σ H' => ∃ (was : List Addr) (L : Nat), m = 70 - L ∧ L < 66 ∧ σ = [some (.str (S sg)), some (.ref pt), some (.int i0), some (.ref pf), some (.int ((n - totW fl (lcT ms tg) sg i0 L : Nat) : Int)), some (lngV lg), some (.ref p)] ∧ Same H H' ∧ WysAt fl (lcT ms tg) sg ms.length p was H' ∧ was.length = L + 1 ∧ totW fl (lcT ms tg) sg i0 L ≤ n ∧ (∀ l, lg = .fin l → L ≤ l),
      ⟨70, was0, 0, rfl, by decide, rfl, s02, hw0, hwl0, Nat.zero_le _, fun _ _ => Nat.zero_le _⟩, ?_⟩
    rintro m σ H3 ⟨was, L, rfl, hL, rfl, s3, hw, hwl, hn, hfin⟩
    refine ⟨_, rfl, rfl, ?_⟩
    have hat : atI (was.map V.ref) (-1) = some (.ref (was.getD L 0)) := at_last (by rw [List.length_map, hwl]; omega) (by rw [List.length_map, hwl, Nat.add_sub_cancel, List.getElem?_map, getD_get (by omega)]; rfl)
    have hlast : was[L]? = some (was.getD L 0) := getD_get (by omega)
    have hrow := hw.row _ _ hlast
    cases hno : decide (lngV lg = V.non) with
    | true =>
      have eno : lg = .no := by
        cases lg with
        | no => rfl
        | fin l => simp [lngV] at hno
        | inf => simp [lngV] at hno
      refine ⟨false, rfl, iteN rfl ?_⟩
      rcases hk with ⟨M, v, hM, hv, k⟩ | ⟨hno, hni, k⟩
      · exact absurd (hlg.trans eno) (lng_ne_no hcl hi0 hv)
      · exact k H3 s3
    | false =>
      refine ⟨true, rfl, iteB rfl ?_⟩
      have hcn : ∀ {M v}, (allR fl (lcT ms tg) sg i0 M)[n]? = some v → totW fl (lcT ms tg) sg i0 (L + 1) ≤ n → L + 1 < M := fun {M v} hv h => by
        have := all_lt hv
        rcases Nat.lt_or_ge (L + 1) M with h1 | h1
        · exact h1
        · have := tot_le (fl := fl) (lc := lcT ms tg) (sg := sg) (i := i0) h1; omega
      have ets : totW fl (lcT ms tg) sg i0 (L + 1) = totW fl (lcT ms tg) sg i0 L + cntW fl (lcT ms tg) sg L i0 := rfl
      refine ⟨fun σ' H' => ∃ was : List Addr, L + 1 < 66 ∧ σ' = [some (.str (S sg)), some (.ref pt), some (.int i0), some (.ref pf), some (.int ((n - totW fl (lcT ms tg) sg i0 (L + 1) : Nat) : Int)), some (lngV lg), some (.ref p)] ∧ Same H H' ∧ WysAt fl (lcT ms tg) sg ms.length p was H' ∧ was.length = L + 1 + 1 ∧ totW fl (lcT ms tg) sg i0 (L + 1) ≤ n ∧ (∀ l, lg = .fin l → L + 1 ≤ l),
        fun σ' H' ⟨was, a1, a2, a3, a4, a5, a6, a7⟩ => ⟨70 - (L + 1), by omega, was, L + 1, rfl, a1, a2, a3, a4, a5, a6, a7⟩, ?_⟩
      refine ⟨_, rfl, _, rfl, _, rfl, p, _, _, _, rfl, rfl, SqL.of hw.hp, hat, ?_⟩
      refine ⟨_, rfl, was.getD L 0, _, _, .int (cntW fl (lcT ms tg) sg L i0 : Nat), rfl, rfl, SqL.of hrow, atI_nat (wRow_at hi0), ?_⟩
      refine ⟨_, _, rfl, rfl, _, rfl, ?_⟩
      by_cases hlt : n - totW fl (lcT ms tg) sg i0 L < cntW fl (lcT ms tg) sg L i0
      · refine iteB (by rw [decide_eq_true_eq]; omega) ?_
        refine ⟨_, rfl, _, rfl, _, rfl, _, rfl, _, rfl, pt, p, sg, ms, f, tg, ra, fl, i0, L, n - totW fl (lcT ms tg) sg i0 L, was, rfl, hgd, ht.same s3, hw, hwl, by omega, hi0, hlt, fun H4 v s4 hv => ?_⟩
        have hv2 : (allR fl (lcT ms tg) sg i0 (L + 1))[n]? = some v := by rw [all_get hn]; exact hv
        rcases hk with ⟨M, v', hM, hv', k⟩ | ⟨hno, hni, k⟩
        · have := all_same hv2 hv'
          subst this
          exact k H4 (s3.trans s4)
        · have := all_lt hv2
          have := hno (L + 1)
          omega
      · refine iteN (by rw [decide_eq_false_iff_not]; omega) ?_
        have hn1 : totW fl (lcT ms tg) sg i0 (L + 1) ≤ n := by omega
        refine ⟨_, rfl, _, rfl, p, _, rfl, .inl (SqL.of hw.hp), _, _, rfl, rfl, ?_⟩
        refine ⟨by cases lg <;> rfl, _, rfl, ?_⟩
        have hdec : ∀ z : Int, z = (L : Int) → (decide (lngV lg = V.int z) = true ↔ lg = .fin L) := fun z hz => by
          subst hz
          rw [decide_eq_true_eq]
          cases lg with
          | no => exact ⟨fun h => (nomatch h), fun h => (nomatch h)⟩
          | inf => exact ⟨fun h => (nomatch h), fun h => (nomatch h)⟩
          | fin l =>
            show V.int (l : Nat) = V.int (L : Nat) ↔ Lng.fin l = Lng.fin L
            rw [V.int.injEq, Lng.fin.injEq]
            omega
        have hz : (((was.map V.ref).length : Nat) : Int) - 1 = (L : Int) := by rw [List.length_map, hwl]; omega
        have hfl : ∀ l, lg = .fin l → l < ms.length := fun l h => ((lng_fin hcl hi0).mp (hlg.trans h)).1
        by_cases hd : lg = .fin L
        · refine iteB ((hdec _ hz).mpr hd) ?_
          rcases hk with ⟨M, v, hM, hv, k⟩ | ⟨hno, hni, k⟩
          · have h1 := all_lt hv
            have h2 := tot_fin hcl hi0 (hlg.trans hd) M
            omega
          · exact k H3 s3
        · refine iteN (by rw [Bool.eq_false_iff]; exact fun h => hd ((hdec _ hz).mp h)) ?_
          have hL1 : L + 1 < 66 := by
            rcases hk with ⟨M, v, hM, hv, k⟩ | ⟨hno', hni, k⟩
            · have := hcn hv hn1; omega
            · cases e : lg with
              | no => rw [e] at hno; simp [lngV] at hno
              | inf => exact absurd (hlg.trans e) (by rw [hlg]; exact hni)
              | fin l => have := hfl l e; have := hfin l e; omega
          refine ⟨_, rfl, _, rfl, _, rfl, p, _, _, _, rfl, rfl, SqL.of hw.hp, hat, ?_⟩
          refine ⟨_, rfl, was.getD L 0, _, _, .int (cntW fl (lcT ms tg) sg L i0 : Nat), rfl, rfl, SqL.of hrow, atI_nat (wRow_at hi0), ?_⟩
          refine ⟨_, _, rfl, rfl, ?_⟩
          refine ⟨_, rfl, .inl ⟨rfl, _, SqL.of hw.hp⟩, ?_⟩
          refine ⟨_, rfl, _, rfl, _, rfl, p, _, _, _, rfl, rfl, SqL.of hw.hp, hat, ?_⟩
          refine ⟨pt, was.getD L 0, sg, ms, f, tg, ra, fl, L, rfl, hgd, ht.same s3, hrow, fun D2 H4 s4 n4 hD4 => ?_⟩
          have hw4 := hw.same s4
          have hDp2 : D2 ≠ p := fun e => by rw [e, hw.hp] at n4; cases n4
          refine ⟨p, _, _, rfl, rfl, hw4.hp, by rw [List.length_map, hwl]; exact small1000 (by omega), ?_⟩
          have ei : ((n - totW fl (lcT ms tg) sg i0 L : Nat) : Int) - (cntW fl (lcT ms tg) sg L i0 : Nat) = ((n - totW fl (lcT ms tg) sg i0 (L + 1) : Nat) : Int) := by omega
          refine ⟨was ++ [D2], hL1, by rw [← ei]; rfl, sm_put (s3.trans s4) hpH, hw4.more (by rw [hwl]; exact hD4) hDp2, by rw [List.length_append, hwl]; rfl, hn1, fun l h => ?_⟩
          have := hfin l h
          have : l ≠ L := fun e => hd (by rw [h, e])
          omega
end
end Toy
set_option maxHeartbeats 2000000
namespace Toy
open PySem L2 C8 SX LX
section
variable {P : Program} {w : World} {K : PySem.W.Frag} {mg : Str → Option Value} {base : Heap}
abbrev s_made : Stmt := top 53
abbrev n_made : List Str := ["told", "steps", "mark", "sign"]
theorem sc_made : FnScope n_made ["told"] (fnScope s_made) := fnScope_by (by decide +kernel)
abbrev ncs_made : Scope := relS (outS (ofRet ((fnBody s_made).getD 0 (.Pass ⟨0, 0, 0, 0⟩)))) (fnScope s_made)
def spMade (C : Addr) : Sp := fun vs H Q _ => ∃ (a : Addr) (sg : List Nat) (ms : List (List Nat)) (f : List Nat) (tg : List Nat → Nat → List Nat) (pm pl : Addr) (ad : List Nat → Addr), vs = [.ref a] ∧ Told H a sg ms f tg pm pl ad ∧ Good sg ms f tg ∧
  ∀ (p : Addr) (H' : Hp), Same H H' → H p = none → Rdr C H' p sg ms f tg → Q (.ref p) H'
def StepsAt (sg : List Nat) (ms : List (List Nat)) (tg : List Nat → Nat → List Nat) (D : Addr) (sa : List Nat → Addr) (H : Hp) : Prop := H D = some (.lst (ms.map fun x => .ref (sa x))) ∧ ∀ x ∈ ms, H (sa x) = some (.lst (txs (sg.map (tg x))))
theorem ok_made {C : Addr} (T : BT mg) (CH : CR K C) (mgC : mg "Reader" = some (.ref C)) (c_Reader : Mak P w K mg base 5 "Reader" C (spInit C) []) {f : Addr} {fd : FuncData} (F : Def K mg "_law_made" s_made f fd) (b : Binds K fd ["told"] []) : Cal P w K mg base 7 "_law_made" (spMade C) [] := by
  refine cal0 F b .nil sc_made (fun vs H Q E h => ?_) (fun cdv A outer s H vs Q E hr h => ?_)
  · obtain ⟨a, sg, ms, f, tg, pm, pl, ad, rfl, _⟩ := h; rfl
  · obtain ⟨a, sg, ms, f, tg, pm, pl, ad, rfl, t, hgd, k⟩ := h
    have h8 := hgd.h8
    refine ⟨_, (pss_cons (ps_setLc (i := 1) (own := [("mark", 2)]) rfl sc_made.nd rfl rfl rfl (pi_list (pe_dget (hu_of hr) (pv 0) pe_str (fun _ _ => rfl))) (blkOk_by (N := n_made) (sc := fnScope s_made) (by decide +kernel)) (fun _ _ _ _ _ => (pg_name (i := 2) sc_made.nd rfl (.inr rfl))) (fun _ _ _ _ _ => pts_nil) (fun _ _ _ _ _ => (pe_lc (own := [("sign", 3)]) rfl sc_made.nd (pi_str (pe_dget (hu_of hr) (pv 0) pe_str (fun _ _ => rfl))) (blkOk_by (N := n_made) (sc := ncs_made) (by decide +kernel)) (fun _ _ _ _ _ => (pg_name (i := 3) sc_made.nd rfl (.inl rfl))) (fun _ _ _ _ _ => pts_nil) (fun _ _ _ _ _ => (pe_dget (hu_of hr) (pe_dget (hu_of hr) (pe_dget (hu_of hr) (pv 0) pe_str (fun _ _ => rfl)) (pv 2) (fun _ _ => rfl)) (pv 3) (fun _ _ => rfl))))))
      (pss_one (ps_ret (pe_mk c_Reader hr (by decide) (by rfl) (pa_cons (pe_dget (hu_of hr) (pv 0) pe_str (fun _ _ => rfl)) (pa_cons (pe_dget (hu_of hr) (pv 0) pe_str (fun _ _ => rfl)) (pa_cons (pe_dget (hu_of hr) (pv 0) pe_str (fun _ _ => rfl)) (pa_cons (pv 1) pa_nil))))))
      )), ?_⟩
    refine ⟨_, rfl, _, _, rfl, t.marks, pm, rfl, ⟨_, SqL.of t.hpm⟩, fun D hD => ?_⟩
    refine lc_keepH keep_same (walk_list (K := K) (a := pm) (xs := txs ms)) hD (by rw [txs_len]; exact small1000 (by omega)) (fun j y H => ∃ p, y = .ref p ∧ p ≠ D ∧ ∀ mm, ms[j]? = some mm → H p = some (.lst (txs (sg.map (tg mm))))) (fun H r => SqL.of (r _ _ t.hpm))
      (fun _ _ _ _ _ r1 ⟨p, e, n, h⟩ => ⟨p, e, n, fun mm hm => r1 _ _ (h mm hm)⟩) (fun _ _ _ _ _ _ _ ⟨p, e, n, h⟩ => ⟨p, e, n, fun mm hm => by rw [upd_ne n]; exact h mm hm⟩) (fun i x H2 H2' acc R hi r2 hDa hy hR => ?_) (fun ys H2 hly hg r2 hDs => ?_)
    · obtain ⟨rfl, e⟩ := hy
      obtain ⟨mm, em, rfl⟩ := txs_get e
      have hmem := List.mem_of_getElem? em
      have t2 := t.same r2
      refine ⟨rfl, ?_⟩
      refine ⟨_, rfl, _, _, rfl, t2.signs, S sg, rfl, fun D2 hD2 => lc_keep keep_same walk_str hD2 (by show sg.length < sizeLine; exact small1000 (by have := hgd.hsg.2.2.1; omega)) (fun j y => ∀ c, sg[j]? = some c → y = .str (S (tg mm c))) (fun _ _ => trivial) (fun j z H3 H4 R2 hj r3 hy hR2 => ?_) (fun zs H3 hlz hgz r3 hDz => ?_)⟩
      · obtain ⟨rfl, c, hc, rfl⟩ := hy
        have hc' : sg[j]? = some c := by simpa [S] using hc
        have t3 := t2.same r3
        refine ⟨rfl, ?_⟩
        refine ⟨_, rfl, _, _, rfl, t3.leads, ?_⟩
        refine ⟨_, rfl, _, _, rfl, t3.mark hmem, ?_⟩
        refine ⟨_, rfl, _, _, rfl, t3.at_ hmem (List.mem_of_getElem? hc'), ?_⟩
        exact hR2 _ _ (Same.refl _) fun c' h => by rw [Option.some.inj (hc'.symm.trans h)]
      · have ez : zs = txs (sg.map (tg mm)) := by
          unfold txs; rw [List.map_map]
          exact list_map hlz fun j y c e1 e2 => hgz j y e1 c e2
        subst ez
        have nD : D2 ≠ D := fun e => by rw [e, hDa] at hD2; cases hD2
        exact hR _ _ r3 ⟨D2, rfl, nD, fun m2 h2 => by rw [em] at h2; cases h2; exact hDz⟩
    rw [txs_len] at hly
    obtain ⟨sa, hsa⟩ := fun_of (γ := Addr) hgd.hnd (P := fun j mm t => ys[j]? = some (V.ref t) ∧ H2 t = some (.lst (txs (sg.map (tg mm))))) fun j mm hj => by
      have hjl : j < ys.length := by rw [hly]; exact (List.getElem?_eq_some_iff.mp hj).1
      obtain ⟨t, e, _, h⟩ := hg j _ (List.getElem?_eq_getElem hjl)
      exact ⟨t, by rw [List.getElem?_eq_getElem hjl, e], h mm hj⟩
    have eys : ys = ms.map fun x => V.ref (sa x) := list_map hly fun j y x e1 e2 => by have := (hsa j x e2).1; rw [e1] at this; exact Option.some.inj this
    subst eys
    have hsa2 : ∀ x ∈ ms, H2 (sa x) = some (.lst (txs (sg.map (tg x)))) := fun x hx => by obtain ⟨j, hj⟩ := List.getElem?_of_mem hx; exact (hsa j x hj).2
    have t2 := t.same r2
    refine ⟨_, rfl, _, _, rfl, t2.signs, _, rfl, _, _, rfl, t2.marks, _, rfl, _, _, rfl, t2.first, _, rfl, fun p dx hp hdx hne => ?_⟩
    have hpx : ∀ b o, H2 b = some o → b ≠ p ∧ b ≠ dx := fun b o e => ⟨fun z => (by rw [← z, e] at hp; cases hp), fun z => (by rw [← z, e] at hdx; cases hdx)⟩
    have kp : ∀ b o, H2 b = some o → (upd (upd H2 dx (.own p)) p (.ins C dx [])) b = some o := fun b o e => by rw [upd_ne (hpx b o e).1, upd_ne (hpx b o e).2]; exact e
    refine ⟨p, dx, pm, D, true, true, true, sg, ms, f, tg, sa, rfl, upd_same, kp _ _ t2.hpm, kp _ _ hDs, fun x hx => kp _ _ (hsa2 x hx), hgd, fun H' hk hr => ⟨rfl, k p H' (fun b o e => ?_) ?_ hr⟩⟩
    · have e2 := r2 _ _ e
      exact hk b o (hpx b o e2).1 (kp b o e2)
    · cases e : H p with
      | none => rfl
      | some o => exact absurd rfl (hpx p o (r2 _ _ e)).1
end
end Toy
set_option maxHeartbeats 4000000
namespace Toy
open PySem L2 C8 SX LX
local macro_rules | `(tactic| walk_at "c") => `(tactic| refine And.intro (by first | (show (0 : Int) < _; omega) | exact Or.inr ⟨by decide, by decide⟩ | exact Or.inl ⟨by decide, by decide⟩ | (exact ⟨by omega, by omega⟩)) ?_)
local macro_rules | `(tactic| walk_at "s1") => `(tactic| first | refine ⟨_, rfl, ?_⟩ | refine ⟨_, _, rfl, rfl, ?_⟩ | refine .inl ⟨_, rfl, ?_⟩ | walk_at "c")
local macro_rules | `(tactic| walk_at "s") => `(tactic| repeat (walk_at "s1"))
section
variable {P : Program} {w : World} {K : PySem.W.Frag} {mg : Str → Option Value} {base : Heap}
abbrev s_lot : Stmt := top 56
abbrev n_lot : List Str := ["box", "told", "mark"]
theorem sc_lot : FnScope n_lot ["box", "told"] (fnScope s_lot) := fnScope_by (by decide +kernel)
def spLot : Sp := fun vs H Q _ => ∃ (b a : Addr) (sg : List Nat) (ms : List (List Nat)) (f : List Nat) (tg : List Nat → Nat → List Nat) (pm pl : Addr) (ad : List Nat → Addr), vs = [.ref b, .ref a] ∧ BoxAt b H ∧ Told H a sg ms f tg pm pl ad ∧ pm ≠ b ∧ Small ms ∧ ms.Nodup ∧ ms.length ≤ 8 ∧
  ∀ (ls : List (List Nat)) (p : Addr) (H' : Hp), (∀ l ∈ ls, l ∈ ms) → ls.Nodup → Bx b H H' → H p = none → H' p = some (.lst (txs ls)) → Q (.ref p) H'
theorem ok_lot (T : BT mg) (c_take : Cal P w K mg base 1 "_law_take" spTake []) (c_mixed : Cal P w K mg base 2 "_law_mixed" (spMixed K) []) {f : Addr} {fd : FuncData} (F : Def K mg "_law_lot" s_lot f fd) (b : Binds K fd ["box", "told"] []) : Cal P w K mg base 3 "_law_lot" spLot [] := by
  refine cal0 F b .nil sc_lot (fun vs H Q E h => ?_) (fun cdv A outer s H vs Q E hr h => ?_)
  · obtain ⟨b, a, _, _, _, _, _, _, _, rfl, _⟩ := h; rfl
  · obtain ⟨b, a, sg, ms, f, tg, pm, pl, ad, rfl, hb, t, hpm, hsm, hnd, h8, k⟩ := h
    refine ⟨_, (pss_one (ps_ret (pe_lc (own := [("mark", 2)]) rfl sc_lot.nd (pi_list (pe_c c_mixed hr (by first | decide | omega) (by rfl) (pa_cons (pv 0) (pa_cons (pe_dget (hu_of hr) (pv 1) pe_str (fun _ _ => rfl)) pa_nil)))) (blkOk_by (N := n_lot) (sc := fnScope s_lot) (by decide +kernel)) (fun _ _ _ _ _ => (pg_name (i := 2) sc_lot.nd rfl (.inl rfl))) (fun _ _ _ _ _ => pts_one (pt_cmpR op_eq (pe_c c_take hr (by first | decide | omega) (by rfl) (pa_cons (pv 0) (pa_cons pe_int pa_nil))) pe_int (nomark _))) (fun _ _ _ _ _ => (pv 2))))
      ), ?_⟩
    refine ⟨_, rfl, _, rfl, _, _, rfl, t.marks, b, pm, ms, rfl, hb, hpm, SqL.of t.hpm, hsm, by omega, fun ys r H1 hys hr hB1 hr1 => ?_⟩
    have hrb : r ≠ b := box_ne hb hr
    have hyl : ys.length = ms.length := hys.length_eq
    refine ⟨r, rfl, ⟨_, SqL.of hr1⟩, fun D hD => ?_⟩
    have hDb : D ≠ b := box_ne hB1.2 hD
    have hDr : r ≠ D := ne_of_none hr1 hD
    refine lc_it (walk_list (K := K) (a := r) (xs := txs ys)) (fun i H' => ∃ ls : List (List Nat), ls.Sublist (ys.take i) ∧ H' D = some (.lst (txs ls)) ∧ H' r = some (.lst (txs ys)) ∧ Bx b H H')
      ⟨[], List.nil_sublist _, upd_same, by rw [upd_ne hDr]; exact hr1, Bx.put hB1 hb (hB1.free hD)⟩ (fun i H' _ ⟨_, _, _, e, _⟩ => SqL.of e) (fun i x H2 H2' hi ⟨ls, hsub, hd2, hr2, hB2⟩ hy => ?_) (fun H2 ⟨ls, hsub, hd2, hr2, hB2⟩ => ?_)
    · obtain ⟨rfl, ex⟩ := hy
      obtain ⟨mm, hmm, rfl⟩ := txs_get ex
      refine ⟨rfl, ?_⟩
      have hll : ls.length ≤ 8 := by have := hsub.length_le; rw [List.length_take] at this; omega
      refine ⟨_, rfl, b, 2, rfl, hB2.2, by omega, by omega, fun d H3 d0 d1 hB3 => ?_⟩
      have hd3 := hB3.1 _ _ hDb hd2
      have hr3 := hB3.1 _ _ hrb hr2
      have hB23 := hB2.trans hB3
      refine ⟨rfl, _, rfl, ?_⟩
      cases e : decide (V.int d = V.int 0) with
      | true =>
        refine iteB rfl ⟨_, rfl, ?_⟩
        refine ⟨_, hd3, by rw [txs_len]; exact small1000 (by omega), ls ++ [mm], ?_, by rw [upd_same]; unfold txs; rw [List.map_append]; rfl, by rw [upd_ne hDr]; exact hr3, ?_⟩
        · rw [take_more hmm]
          exact hsub.append (List.Sublist.refl _)
        · exact Bx.put hB23 hb (hB1.free hD)
      | false =>
        refine iteN rfl ?_
        exact ⟨ls, by rw [take_more hmm]; exact hsub.trans (List.sublist_append_left _ _), hd3, hr3, hB23⟩
    · rw [txs_len, List.take_length] at hsub
      exact k ls D H2 (fun l hl => hys.subset (hsub.subset hl)) ((hys.nodup_iff.mpr hnd).sublist hsub) hB2 (hB1.free hD) hd2
end
end Toy
set_option maxHeartbeats 4000000
namespace Toy
open PySem L2 C8 SX LX
section
variable {P : Program} {w : World} {K : PySem.W.Frag} {mg : Str → Option Value} {base : Heap}
def rowO (sg : List Nat) : Option (List Nat) → Bool
  | some x => decide (Ov sg x)
  | none => false
def spIsRowD (K : PySem.W.Frag) : Sp := fun vs H Q _ => ∃ (sg : List Nat) (v : V) (o : Option (List Nat)), vs = [v, .str (S sg)] ∧ Kv K H v o ∧ (∀ l, o = some l → l.length ≤ 1000) ∧ Q (.bl (rowO sg o)) H
theorem ok_isrowD (T : BT mg) {f : Addr} {fd : FuncData} (F : Def K mg "is_row" s_isrow f fd) (b : Binds K fd ["value", "signs"] []) : Cal P w K mg base 1 "is_row" (spIsRowD K) [] := by
  refine cal0 F b .nil sc_isrow (fun vs H Q E h => ?_) (fun cdv A outer s H vs Q E hr h => ?_)
  · obtain ⟨sg, v, o, rfl, _⟩ := h; rfl
  · obtain ⟨sg, v, o, rfl, hv, hl, k⟩ := h
    refine ⟨_, (pss_one (ps_ret (pe_and (pe_callB (isiK K) (by rfl) T.m_isinstance PyProof.Rows.boot_isinstance (pa_cons (pv 0) (pa_cons (pe_bltn (v := .ty "str") (by rfl) T.m_str PyProof.Rows.boot_str rfl) pa_nil))) (pe_one (pe_cmpR op_eq (pe_bm PySem.F.plainAttrs_str PySem.F.slot_str_strip PySem.F.type_str_strip mt_stripChars (pv 0) (pa_cons (pv 1) pa_nil)) pe_str (nomark _)))))
      ), ?_⟩
    refine ⟨_, rfl, ?_⟩
    cases hv with
    | no ty hk => exact ⟨_, _, _, _, false, rfl, .ty _, ty, hk, false, rfl, iteN rfl k⟩
    | txt l =>
      refine ⟨_, _, _, _, true, rfl, .ty _, .base (.str _), kit_ty (by decide +kernel), true, rfl, iteT ?_⟩
      refine ⟨_, rfl, rfl, _, rfl, S l, S sg, rfl, rfl, by rw [S_len]; exact sz (hl l rfl) (by decide), rfl, ?_⟩
      have e : V.bl (decide (V.str (Txt.stripChars (S l) (S sg)) = V.str (Str.ofString ""))) = V.bl (decide (Ov sg l)) := by
        rw [s_nil]
        refine congrArg V.bl (decide_eq_decide.mpr ?_)
        rw [V.str.injEq]
        exact strip_nil
      show Q (V.bl (decide (V.str (Txt.stripChars (S l) (S sg)) = V.str (Str.ofString "")))) H
      rw [e]
      exact k
theorem lotY_of {H : Hp} {q : Addr} {bb : Bool} {ls : List (List Nat)} (h : SqB K bb H q (txs ls)) (h60 : ls.length < 60) (nd : ls.Nodup) : LotY K H (.ref q) (some (ls.map some)) :=
  .seq h (by rw [txs_len, List.length_map]) (by rw [List.length_map]; exact h60) (fun i x o e1 e2 => by
    obtain ⟨l, hl, rfl⟩ := txs_get e1
    rw [List.getElem?_map, hl] at e2
    cases e2
    exact .txt l) (.inr fun ls' e => by
    have : ls = ls' := (List.map_inj_right (fun x y e => Option.some.inj e)).mp e
    rw [← this]; exact nd)
structure RL (K : PySem.W.Frag) (C : Addr) (H : Hp) (a q : Addr) (bb : Bool) (sg : List Nat) (ms : List (List Nat)) (f : List Nat) (tg : List Nat → Nat → List Nat) (ls : List (List Nat)) : Prop where
  rd : Rdr C H a sg ms f tg
  gd : Good sg ms f tg
  lot : SqB K bb H q (txs ls)
  sub : ∀ l ∈ ls, l ∈ ms
  nd : ls.Nodup
theorem RL.same {C : Addr} {H H' : Hp} {a q : Addr} {bb : Bool} {sg : List Nat} {ms : List (List Nat)} {f : List Nat} {tg : List Nat → Nat → List Nat} {ls : List (List Nat)} (h : RL K C H a q bb sg ms f tg ls) (s : Same H H') : RL K C H' a q bb sg ms f tg ls := ⟨h.rd.same s, h.gd, h.lot.same s, h.sub, h.nd⟩
theorem RL.l60 {C : Addr} {H : Hp} {a q : Addr} {bb : Bool} {sg : List Nat} {ms : List (List Nat)} {f : List Nat} {tg : List Nat → Nat → List Nat} {ls : List (List Nat)} (h : RL K C H a q bb sg ms f tg ls) : ls.length < 60 := by
  have := UW.sub_len ms ls h.nd h.sub; have := h.gd.h8; omega
theorem RL.f {C : Addr} {H : Hp} {a q : Addr} {bb : Bool} {sg : List Nat} {ms : List (List Nat)} {f : List Nat} {tg : List Nat → Nat → List Nat} {ls : List (List Nat)} (h : RL K C H a q bb sg ms f tg ls) : ms.idxOf f < ms.length := List.idxOf_lt_length_of_mem h.gd.hf
abbrev s_many : Stmt := top 40
abbrev n_many : List Str := ["reader", "lot", "length", "ways"]
theorem sc_many : FnScope n_many ["reader", "lot", "length"] (fnScope s_many) := fnScope_by (by decide +kernel)
def spMany (K : PySem.W.Frag) (C : Addr) : Sp := fun vs H Q _ => ∃ (a q : Addr) (bb : Bool) (sg : List Nat) (ms : List (List Nat)) (f : List Nat) (tg : List Nat → Nat → List Nat) (ls : List (List Nat)) (n : Nat), vs = [.ref a, .ref q, .int n] ∧ RL K C H a q bb sg ms f tg ls ∧ n ≤ 70 ∧
  ∀ H', Same H H' → Q (.int (cntW (flO ms ls) (lcT ms tg) sg n (ms.idxOf f) : Nat)) H'
theorem ok_many {C CL : Addr} (T : BT mg) (CH : CR K C) (c_chlot : CalX P w K mg base 3 "check_lot" (spChLot K C CL)) (c_m_num : Met P w K mg base 1 C "number_of" (spMNum C) []) (c_table : Cal P w K mg base 2 "table_of" (spTable C) []) (c_flags : Cal P w K mg base 1 "flags_of" (spFlags K C) []) (c_ways : Cal P w K mg base 2 "ways_by_length" spWays [])
    {f : Addr} {fd : FuncData} (F : Def K mg "how_many" s_many f fd) (b : Binds K fd ["reader", "lot", "length"] []) : Cal P w K mg base 4 "how_many" (spMany K C) [] := by
  refine cal0 F b .nil sc_many (fun vs H Q E h => ?_) (fun cdv A outer s H vs Q E hr h => ?_)
  · obtain ⟨a, q, _, _, _, _, _, _, _, rfl, _⟩ := h; rfl
  · obtain ⟨a, q, bb, sg, ms, f, tg, ls, n, rfl, hrl, hn, k⟩ := h
    refine ⟨_, (pss_cons (ps_expr (pe_cX c_chlot takes_none5 hr (by first | decide | omega) (by rfl) (pa_cons (pv 0) (pa_cons (pv 1) pa_nil))))
      (pss_cons (ps_set (i := 3) sc_many.nd rfl (.inl rfl) (pe_c c_ways hr (by first | decide | omega) (by rfl) (pa_cons (pe_c c_table hr (by first | decide | omega) (by rfl) (pa_cons (pv 0) pa_nil)) (pa_cons (pe_c c_flags hr (by first | decide | omega) (by rfl) (pa_cons (pv 0) (pa_cons (pv 1) pa_nil))) (pa_cons (pv 2) pa_nil)))))
      (pss_one (ps_ret (pe_ix (ixl K) (pe_ix (ixl K) (pv 3) (pv 2) (fun _ _ => rfl)) (pe_mt c_m_num hr (by decide) (pv 0) (pa_cons (fldK K (pv 0) rfl) pa_nil)) (fun _ _ => rfl)))
      ))), ?_⟩
    refine ⟨_, rfl, _, rfl, a, .ref q, sg, ms, f, tg, some (ls.map some), rfl, hrl.rd, lotY_of hrl.lot hrl.l60 hrl.nd, .inl ⟨⟨ls, rfl, hrl.sub, hrl.nd⟩, fun H1 s1 => ?_⟩⟩
    have r1 := hrl.same s1
    refine ⟨_, rfl, a, sg, ms, f, tg, rfl, r1.rd.to0, r1.gd, fun tb ra H2 s2 n2 h2 hra => ?_⟩
    have r2 := r1.same s2
    refine ⟨_, rfl, _, rfl, a, q, bb, sg, ms, f, tg, ls, rfl, r2.rd, r2.gd, r2.lot, fun qf H3 s3 n3 h3 => ?_⟩
    have r3 := r2.same s3
    have ht3 : TabL sg ms tg tb ra H3 := ⟨s3 _ _ h2, fun x hx => s3 _ _ (hra x hx)⟩
    refine ⟨_, rfl, tb, qf, sg, ms, f, tg, ra, flO ms ls, n, rfl, r3.gd, ht3, h3, hn, fun p was H4 s4 n4 hw hwl => ?_⟩
    have r4 := r3.same s4
    obtain ⟨dx, m, st, nu, le, sa, la, co, ca, rr, hcol⟩ := id r4.rd
    have hlast : was[n]? = some (was.getD n 0) := getD_get (by omega)
    refine ⟨_, rfl, _, rfl, p, _, _, _, rfl, rfl, SqL.of hw.hp, atI_nat (by rw [List.getElem?_map, hlast]; rfl), ?_⟩
    refine ⟨_, rfl, a, dx, _, rfl, rr.ha, rfl, _, rfl, a, C, dx, _, _, rfl, rr.ha, CH.cl, CH.nF, rl_first, ?_⟩
    refine ⟨a, sg, ms, f, tg, f, rfl, r4.rd.to0, r4.gd.hnd, r4.gd.hf, ?_⟩
    refine ⟨was.getD n 0, _, _, .int (cntW (flO ms ls) (lcT ms tg) sg n (ms.idxOf f) : Nat), rfl, rfl, SqL.of (hw.row _ _ hlast), atI_nat (wRow_at hrl.f), ?_⟩
    exact k H4 (((s1.trans s2).trans s3).trans s4)
abbrev s_longest : Stmt := top 43
abbrev n_longest : List Str := ["reader", "lot"]
theorem sc_longest : FnScope n_longest ["reader", "lot"] (fnScope s_longest) := fnScope_by (by decide +kernel)
def spLongest (K : PySem.W.Frag) (C : Addr) : Sp := fun vs H Q _ => ∃ (a q : Addr) (bb : Bool) (sg : List Nat) (ms : List (List Nat)) (f : List Nat) (tg : List Nat → Nat → List Nat) (ls : List (List Nat)), vs = [.ref a, .ref q] ∧ RL K C H a q bb sg ms f tg ls ∧
  ∀ H', Same H H' → Q (lngV (lngP (flO ms ls) (lcT ms tg) sg ms.length (ms.idxOf f))) H'
theorem ok_longest {C CL : Addr} (T : BT mg) (CH : CR K C) (c_chlot : CalX P w K mg base 3 "check_lot" (spChLot K C CL)) (c_m_num : Met P w K mg base 1 C "number_of" (spMNum C) []) (c_table : Cal P w K mg base 2 "table_of" (spTable C) []) (c_flags : Cal P w K mg base 1 "flags_of" (spFlags K C) []) (c_lfrom : Cal P w K mg base 1 "longest_from" spLFrom [])
    {f : Addr} {fd : FuncData} (F : Def K mg "longest" s_longest f fd) (b : Binds K fd ["reader", "lot"] []) : Cal P w K mg base 4 "longest" (spLongest K C) [] := by
  refine cal0 F b .nil sc_longest (fun vs H Q E h => ?_) (fun cdv A outer s H vs Q E hr h => ?_)
  · obtain ⟨a, q, _, _, _, _, _, _, rfl, _⟩ := h; rfl
  · obtain ⟨a, q, bb, sg, ms, f, tg, ls, rfl, hrl, k⟩ := h
    refine ⟨_, (pss_cons (ps_expr (pe_cX c_chlot takes_none5 hr (by first | decide | omega) (by rfl) (pa_cons (pv 0) (pa_cons (pv 1) pa_nil))))
      (pss_one (ps_ret (pe_c c_lfrom hr (by first | decide | omega) (by rfl) (pa_cons (pe_c c_table hr (by first | decide | omega) (by rfl) (pa_cons (pv 0) pa_nil)) (pa_cons (pe_mt c_m_num hr (by decide) (pv 0) (pa_cons (fldK K (pv 0) rfl) pa_nil)) (pa_cons (pe_c c_flags hr (by first | decide | omega) (by rfl) (pa_cons (pv 0) (pa_cons (pv 1) pa_nil))) pa_nil)))))
      )), ?_⟩
    refine ⟨_, rfl, _, rfl, a, .ref q, sg, ms, f, tg, some (ls.map some), rfl, hrl.rd, lotY_of hrl.lot hrl.l60 hrl.nd, .inl ⟨⟨ls, rfl, hrl.sub, hrl.nd⟩, fun H1 s1 => ?_⟩⟩
    have r1 := hrl.same s1
    refine ⟨_, rfl, a, sg, ms, f, tg, rfl, r1.rd.to0, r1.gd, fun tb ra H2 s2 n2 h2 hra => ?_⟩
    have r2 := r1.same s2
    obtain ⟨dx, m, st, nu, le, sa, la, co, ca, rr, hcol⟩ := id r2.rd
    refine ⟨_, rfl, a, dx, _, rfl, rr.ha, rfl, _, rfl, a, C, dx, _, _, rfl, rr.ha, CH.cl, CH.nF, rl_first, ?_⟩
    refine ⟨a, sg, ms, f, tg, f, rfl, r2.rd.to0, r2.gd.hnd, r2.gd.hf, ?_⟩
    refine ⟨_, rfl, _, rfl, a, q, bb, sg, ms, f, tg, ls, rfl, r2.rd, r2.gd, r2.lot, fun qf H3 s3 n3 h3 => ?_⟩
    have r3 := r2.same s3
    have ht3 : TabL sg ms tg tb ra H3 := ⟨s3 _ _ h2, fun x hx => s3 _ _ (hra x hx)⟩
    refine ⟨tb, qf, sg, ms, f, tg, ra, flO ms ls, ms.idxOf f, rfl, r3.gd, ht3, h3, hrl.f, fun H4 s4 => ?_⟩
    exact k H4 (((s1.trans s2).trans s3).trans s4)
abbrev s_rowat : Stmt := top 41
abbrev n_rowat : List Str := ["reader", "lot", "number", "first"]
theorem sc_rowat : FnScope n_rowat ["reader", "lot", "number"] (fnScope s_rowat) := fnScope_by (by decide +kernel)
def spRowAt (K : PySem.W.Frag) (C : Addr) : Sp := fun vs H Q _ => ∃ (a q : Addr) (bb : Bool) (sg : List Nat) (ms : List (List Nat)) (f : List Nat) (tg : List Nat → Nat → List Nat) (ls : List (List Nat)) (n : Nat), vs = [.ref a, .ref q, .int n] ∧ RL K C H a q bb sg ms f tg ls ∧
  ((∃ M v, M ≤ 65 ∧ (allR (flO ms ls) (lcT ms tg) sg (ms.idxOf f) M)[n]? = some v ∧ ∀ (H' : Hp), Same H H' → Q (.str (S v)) H') ∨ ((∀ L, totW (flO ms ls) (lcT ms tg) sg (ms.idxOf f) L ≤ n) ∧ lngP (flO ms ls) (lcT ms tg) sg ms.length (ms.idxOf f) ≠ .inf ∧ ∀ (H' : Hp), Same H H' → Q .non H'))
theorem ok_rowat {C CL : Addr} (T : BT mg) (CH : CR K C) (c_chlot : CalX P w K mg base 3 "check_lot" (spChLot K C CL)) (c_m_num : Met P w K mg base 1 C "number_of" (spMNum C) []) (c_table : Cal P w K mg base 2 "table_of" (spTable C) []) (c_flags : Cal P w K mg base 1 "flags_of" (spFlags K C) []) (c_numd : Cal P w K mg base 3 "row_numbered" spNumd [])
    {f : Addr} {fd : FuncData} (F : Def K mg "row_at" s_rowat f fd) (b : Binds K fd ["reader", "lot", "number"] []) : Cal P w K mg base 4 "row_at" (spRowAt K C) [] := by
  refine cal0 F b .nil sc_rowat (fun vs H Q E h => ?_) (fun cdv A outer s H vs Q E hr h => ?_)
  · obtain ⟨a, q, _, _, _, _, _, _, _, rfl, _⟩ := h; rfl
  · obtain ⟨a, q, bb, sg, ms, f, tg, ls, n, rfl, hrl, k⟩ := h
    refine ⟨_, (pss_cons (ps_expr (pe_cX c_chlot takes_none5 hr (by first | decide | omega) (by rfl) (pa_cons (pv 0) (pa_cons (pv 1) pa_nil))))
      (pss_cons (ps_set (i := 3) sc_rowat.nd rfl (.inl rfl) (pe_mt c_m_num hr (by decide) (pv 0) (pa_cons (fldK K (pv 0) rfl) pa_nil)))
      (pss_one (ps_ret (pe_c c_numd hr (by first | decide | omega) (by rfl) (pa_cons (fldK K (pv 0) rfl) (pa_cons (pe_c c_table hr (by first | decide | omega) (by rfl) (pa_cons (pv 0) pa_nil)) (pa_cons (pv 3) (pa_cons (pe_c c_flags hr (by first | decide | omega) (by rfl) (pa_cons (pv 0) (pa_cons (pv 1) pa_nil))) (pa_cons (pv 2) pa_nil)))))))
      ))), ?_⟩
    refine ⟨_, rfl, _, rfl, a, .ref q, sg, ms, f, tg, some (ls.map some), rfl, hrl.rd, lotY_of hrl.lot hrl.l60 hrl.nd, .inl ⟨⟨ls, rfl, hrl.sub, hrl.nd⟩, fun H1 s1 => ?_⟩⟩
    have r1 := hrl.same s1
    obtain ⟨dx, m, st, nu, le, sa, la, co, ca, rr, hcol⟩ := id r1.rd
    refine ⟨_, rfl, a, dx, _, rfl, rr.ha, rfl, _, rfl, a, C, dx, _, _, rfl, rr.ha, CH.cl, CH.nF, rl_first, ?_⟩
    refine ⟨a, sg, ms, f, tg, f, rfl, r1.rd.to0, r1.gd.hnd, r1.gd.hf, ?_⟩
    refine ⟨_, rfl, a, C, dx, _, _, rfl, rr.ha, CH.cl, CH.nS, rl_signs, ?_⟩
    refine ⟨_, rfl, a, sg, ms, f, tg, rfl, r1.rd.to0, r1.gd, fun tb ra H2 s2 n2 h2 hra => ?_⟩
    have r2 := r1.same s2
    refine ⟨_, rfl, ?_⟩
    refine ⟨_, rfl, _, rfl, a, q, bb, sg, ms, f, tg, ls, rfl, r2.rd, r2.gd, r2.lot, fun qf H3 s3 n3 h3 => ?_⟩
    have r3 := r2.same s3
    have ht3 : TabL sg ms tg tb ra H3 := ⟨s3 _ _ h2, fun x hx => s3 _ _ (hra x hx)⟩
    have s03 := (s1.trans s2).trans s3
    refine ⟨_, rfl, tb, qf, sg, ms, f, tg, ra, flO ms ls, ms.idxOf f, n, rfl, r3.gd, ht3, h3, hrl.f, ?_⟩
    rcases k with ⟨M, v, a1, a2, k⟩ | ⟨a1, a2, k⟩
    · exact .inl ⟨M, v, a1, a2, fun H4 s4 => k H4 (s03.trans s4)⟩
    · exact .inr ⟨a1, a2, fun H4 s4 => k H4 (s03.trans s4)⟩
end
end Toy
set_option maxHeartbeats 4000000
namespace Toy
open PySem L2 C8 SX LX
section
variable {P : Program} {w : World} {K : PySem.W.Frag} {mg : Str → Option Value} {base : Heap}
abbrev s_place : Stmt := top 42
abbrev n_place : List Str := ["reader", "lot", "row", "first"]
theorem sc_place : FnScope n_place ["reader", "lot", "row"] (fnScope s_place) := fnScope_by (by decide +kernel)
def spPlace (K : PySem.W.Frag) (C CI : Addr) : Sp := fun vs H Q E => ∃ (a q : Addr) (bb : Bool) (sg : List Nat) (ms : List (List Nat)) (f : List Nat) (tg : List Nat → Nat → List Nat) (ls : List (List Nat)) (v : V) (o : Option (List Nat)), vs = [.ref a, .ref q, v] ∧ RL K C H a q bb sg ms f tg ls ∧ Kv K H v o ∧ (∀ l, o = some l → l.length ≤ 70) ∧
  ((∃ l, o = some l ∧ Ov sg l ∧ ∀ H', Same H H' → (flO ms ls (l.foldl (lcT ms tg) (ms.idxOf f)) = true → ∀ n : Nat, (allR (flO ms ls) (lcT ms tg) sg (ms.idxOf f) (l.length + 1))[n]? = some l → Q (.int n) H') ∧ (flO ms ls (l.foldl (lcT ms tg) (ms.idxOf f)) = false → Q .non H')) ∨
   (rowO sg o = false ∧ ∀ H', Same H H' → E (.ref CI) none H'))
theorem ok_place {C CL CI : Addr} (T : BT mg) (CH : CR K C) (x_InvalidRow : XN K mg "InvalidRow" CI) (c_isrow : Cal P w K mg base 1 "is_row" (spIsRowD K) []) (c_chlot : CalX P w K mg base 3 "check_lot" (spChLot K C CL)) (c_m_num : Met P w K mg base 1 C "number_of" (spMNum C) []) (c_table : Cal P w K mg base 2 "table_of" (spTable C) []) (c_flags : Cal P w K mg base 1 "flags_of" (spFlags K C) []) (c_numof : Cal P w K mg base 3 "number_of_row" spNumOf [])
    {f : Addr} {fd : FuncData} (F : Def K mg "place_of" s_place f fd) (b : Binds K fd ["reader", "lot", "row"] []) : CalX P w K mg base 4 "place_of" (spPlace K C CI) := by
  refine ⟨f, fd, _, fnX F.fn sc_place (fun vs H Q E h => ?_) (fun cdv A outer s H vs Q E hr h => ?_), F.mgf, F.kp, b⟩
  · obtain ⟨a, q, _, _, _, _, _, _, _, _, rfl, _⟩ := h; rfl
  · obtain ⟨a, q, bb, sg, ms, f, tg, ls, v, o, rfl, hrl, hv, hl, k⟩ := h
    refine ⟨_, (pss_cons (ps_expr (pe_cX c_chlot (takes_of rfl rfl rfl rfl) hr (by first | decide | omega) (by rfl) (pa_cons (pv 0) (pa_cons (pv 1) pa_nil))))
      (pss_cons (ps_if (pt_not (pt_val (pe_c c_isrow hr (by first | decide | omega) (by rfl) (pa_cons (pv 2) (pa_cons (fldK K (pv 0) rfl) pa_nil))))) 
        (pss_one (ps_raise rfl (takes_of rfl rfl rfl rfl) (pmk_own0 PySem.F.excBase_ValueError x_InvalidRow.q x_InvalidRow.g x_InvalidRow.k x_InvalidRow.r (by rfl)))
        )
       pss_nil)
      (pss_cons (ps_set (i := 3) sc_place.nd rfl (.inl rfl) (pe_mt c_m_num hr (by decide) (pv 0) (pa_cons (fldK K (pv 0) rfl) pa_nil)))
      (pss_one (ps_ret (pe_c c_numof hr (by first | decide | omega) (by rfl) (pa_cons (fldK K (pv 0) rfl) (pa_cons (pe_c c_table hr (by first | decide | omega) (by rfl) (pa_cons (pv 0) pa_nil)) (pa_cons (pv 3) (pa_cons (pe_c c_flags hr (by first | decide | omega) (by rfl) (pa_cons (pv 0) (pa_cons (pv 1) pa_nil))) (pa_cons (pv 2) pa_nil)))))))
      )))), ?_⟩
    refine ⟨_, rfl, _, rfl, a, .ref q, sg, ms, f, tg, some (ls.map some), rfl, hrl.rd, lotY_of hrl.lot hrl.l60 hrl.nd, .inl ⟨⟨ls, rfl, hrl.sub, hrl.nd⟩, fun H1 s1 => ?_⟩⟩
    have r1 := hrl.same s1
    have hv1 := kv_same s1 hv
    obtain ⟨dx, m, st, nu, le, sa, la, co, ca, rr, hcol⟩ := id r1.rd
    refine ⟨_, rfl, _, rfl, a, C, dx, _, _, rfl, rr.ha, CH.cl, CH.nS, rl_signs, ?_⟩
    refine ⟨sg, v, o, rfl, hv1, fun l e => by have := hl l e; omega, ?_⟩
    rcases k with ⟨l, rfl, ho, k⟩ | ⟨hf, k⟩
    · cases hv with
      | txt =>
      have hro : rowO sg (some l) = true := decide_eq_true ho
      rw [hro]
      refine ⟨true, rfl, iteN rfl ?_⟩
      refine ⟨_, rfl, a, dx, _, rfl, rr.ha, rfl, _, rfl, a, C, dx, _, _, rfl, rr.ha, CH.cl, CH.nF, rl_first, ?_⟩
      refine ⟨a, sg, ms, f, tg, f, rfl, r1.rd.to0, r1.gd.hnd, r1.gd.hf, ?_⟩
      refine ⟨_, rfl, a, C, dx, _, _, rfl, rr.ha, CH.cl, CH.nS, rl_signs, ?_⟩
      refine ⟨_, rfl, a, sg, ms, f, tg, rfl, r1.rd.to0, r1.gd, fun tb ra H2 s2 n2 h2 hra => ?_⟩
      have r2 := r1.same s2
      refine ⟨_, rfl, ?_⟩
      refine ⟨_, rfl, _, rfl, a, q, bb, sg, ms, f, tg, ls, rfl, r2.rd, r2.gd, r2.lot, fun qf H3 s3 n3 h3 => ?_⟩
      have r3 := r2.same s3
      have ht3 : TabL sg ms tg tb ra H3 := ⟨s3 _ _ h2, fun x hx => s3 _ _ (hra x hx)⟩
      have s03 := (s1.trans s2).trans s3
      refine ⟨_, rfl, tb, qf, sg, ms, f, tg, ra, flO ms ls, ms.idxOf f, l, rfl, r3.gd, ht3, h3, hrl.f, ho, hl l rfl, fun H4 s4 => ?_⟩
      exact k H4 (s03.trans s4)
    · rw [hf]
      exact ⟨false, rfl, iteB rfl (k H1 s1)⟩
end
end Toy
set_option maxHeartbeats 2000000
namespace Toy
open PySem L2 C8 SX LX
abbrev WL := List (Nat × List Nat)
def inn (lead : Nat → Nat → Nat) (isl : Nat → Bool) (t : Nat) (r : List Nat) : Nat → List Nat → WL → WL
  | _, [], L => L
  | i, c :: cs, L => if lead t i ∈ L.map (·.1) then inn lead isl t r (i + 1) cs L else if isl (lead t i) = true then L ++ [(lead t i, r ++ [c])] else inn lead isl t r (i + 1) cs (L ++ [(lead t i, r ++ [c])])
def lastOf (L : WL) : Nat := (L.getLast?.getD (0, [])).1
def outW (lead : Nat → Nat → Nat) (isl : Nat → Bool) (sg : List Nat) : Nat → Nat → WL → WL
  | 0, _, L => L
  | n + 1, at_, L => match L[at_]? with
    | none => L
    | some (t, r) => if isl (lastOf L) = true then L else outW lead isl sg n (at_ + 1) (inn lead isl t r 0 sg L)
def walkR (lead : Nat → Nat → Nat) (isl : Nat → Bool) (sg : List Nat) (N b : Nat) : WL := outW lead isl sg (N + 1) 0 [(b, [])]
def thV (L : WL) : List V := L.map fun p => .int (p.1 : Nat)
def thK (L : WL) : List (Key × V) := L.map fun p => (Sum.inl (p.1 : Int), .str (S p.2))
structure WOk (N : Nat) (L : WL) : Prop where
  nd : (L.map (·.1)).Nodup
  lt : ∀ p ∈ L, p.1 < N
  rl : ∀ p ∈ L, p.2.length < L.length
theorem nodup_len : ∀ (N : Nat) (l : List Nat), l.Nodup → (∀ x ∈ l, x < N) → l.length ≤ N
  | 0, l, _, h => by
    cases l with
    | nil => exact Nat.le_refl _
    | cons a l => exact absurd (h a List.mem_cons_self) (Nat.not_lt_zero _)
  | n + 1, l, nd, h => by
    have ih := nodup_len n (l.erase n) (nd.erase n) fun x hx => by
      have := (nd.mem_erase_iff).mp hx
      have h2 := h x this.2
      omega
    have := List.length_erase (a := n) (l := l)
    split at this <;> omega
theorem WOk.len {N : Nat} {L : WL} (h : WOk N L) : L.length ≤ N := by
  have := nodup_len N (L.map (·.1)) h.nd fun x hx => by obtain ⟨p, hp, rfl⟩ := List.mem_map.mp hx; exact h.lt p hp
  simpa using this
theorem WOk.put {N : Nat} {L : WL} (h : WOk N L) {f : Nat} {r : List Nat} (hf : f < N) (hn : f ∉ L.map (·.1)) (hr : r.length ≤ L.length) : WOk N (L ++ [(f, r)]) := by
  refine ⟨?_, fun p hp => ?_, fun p hp => ?_⟩
  · rw [List.map_append, List.nodup_append]
    refine ⟨h.nd, by simp, fun a ha b hb e => ?_⟩
    have : b = f := by simpa using hb
    subst this; subst e; exact hn ha
  · rcases List.mem_append.mp hp with q | q
    · exact h.lt p q
    · rw [List.mem_singleton.mp q]; exact hf
  · rw [List.length_append, List.length_singleton]
    rcases List.mem_append.mp hp with q | q
    · exact Nat.lt_succ_of_lt (h.rl p q)
    · rw [List.mem_singleton.mp q]; exact Nat.lt_succ_of_le hr
theorem inl_inj {a b : Nat} (h : (Sum.inl (a : Int) : Key) = Sum.inl (b : Int)) : a = b := by have := Sum.inl.inj h; omega
theorem thK_none {L : WL} {f : Nat} (h : f ∉ L.map (·.1)) : valV (thK L) (Sum.inl (f : Int)) = none := valV_none fun p hp e => by
  obtain ⟨q, hq, rfl⟩ := List.mem_map.mp hp
  exact h (List.mem_map.mpr ⟨q, hq, inl_inj e⟩)
theorem thK_some {L : WL} {f : Nat} {r : List Nat} (nd : (L.map (·.1)).Nodup) (h : (f, r) ∈ L) : valV (thK L) (Sum.inl (f : Int)) = some (.str (S r)) := by
  induction L with
  | nil => cases h
  | cons p L ih =>
    rw [List.map_cons, List.nodup_cons] at nd
    unfold thK at ih ⊢
    rw [List.map_cons]
    rcases List.mem_cons.mp h with e | e
    · rw [← e]; exact valV_pos rfl
    · rw [valV_neg fun q => ?_]
      · exact ih nd.2 e
      · have : p.1 = f := inl_inj q
        exact nd.1 (by rw [this]; exact List.mem_map.mpr ⟨(f, r), e, rfl⟩)
theorem putK_th {L : WL} {f : Nat} {r : List Nat} (h : f ∉ L.map (·.1)) : putK (thK L) (Sum.inl (f : Int)) (.str (S r)) = thK (L ++ [(f, r)]) := by
  rw [putK_new _ (thK_none h)]; unfold thK; rw [List.map_append]; rfl
theorem thV_get {L : WL} {i : Nat} {x : V} (h : (thV L)[i]? = some x) : ∃ q, L[i]? = some q ∧ x = .int (q.1 : Nat) := by
  unfold thV at h
  rw [List.getElem?_map] at h
  cases e : L[i]? with
  | none => rw [e] at h; cases h
  | some q => rw [e] at h; exact ⟨q, rfl, (Option.some.inj h).symm⟩
theorem refs_of : ∀ {ys : List V}, (∀ (j : Nat) y, ys[j]? = some y → ∃ t, y = .ref t) → ∃ ps : List Addr, ys = ps.map V.ref
  | [], _ => ⟨[], rfl⟩
  | y :: ys, h => by
    obtain ⟨t, rfl⟩ := h 0 y rfl
    obtain ⟨ps, rfl⟩ := refs_of (ys := ys) fun j z e => h (j + 1) z e
    exact ⟨t :: ps, rfl⟩
theorem at_neg {xs : List V} {v : V} (h : 0 < xs.length) (e : xs[xs.length - 1]? = some v) : atI xs (-1) = some v := by
  have : ixN xs.length (-1) = some (xs.length - 1) := by
    unfold ixN
    rw [if_neg (by decide), if_pos (by omega)]
    congr 1; omega
  unfold atI
  rw [this]; exact e
section
variable {P : Program} {w : World} {K : PySem.W.Frag} {mg : Str → Option Value} {base : Heap}
abbrev s_until : Stmt := top 17
abbrev n_until : List Str := ["signs", "begin", "lead", "is_last", "things", "rows", "at", "number", "sign", "following", "thing"]
theorem sc_until : FnScope n_until ["signs", "begin", "lead", "is_last"] (fnScope s_until) := fnScope_by (by decide +kernel)
def spL (N m : Nat) (lead : Nat → Nat → Nat) : Sp := fun vs H Q _ => ∃ t i : Nat, vs = [.int (t : Nat), .int (i : Nat)] ∧ t < N ∧ i < m ∧ ∀ H', Same H H' → Q (.int (lead t i : Nat)) H'
def spI (N : Nat) (isl : Nat → Bool) : Sp := fun vs H Q _ => ∃ t : Nat, vs = [.int (t : Nat)] ∧ t < N ∧ ∀ H', Same H H' → Q (.bl (isl t)) H'
def spUntil (N : Nat) (gl gi : Addr) (trl tri : Hp → Prop) (lead : Nat → Nat → Nat) (isl : Nat → Bool) (sg : List Nat) : Sp := fun vs H Q _ => ∃ b : Nat, vs = [.str (S sg), .int (b : Nat), .ref gl, .ref gi] ∧ b < N ∧ trl H ∧ tri H ∧
  ∀ (p : Addr) (ps : List Addr) (H' : Hp), Same H H' → H p = none → H' p = some (.lst (ps.map V.ref)) → ps.length = (walkR lead isl sg N b).length → (∀ (i : Nat) (a : Addr) (q : Nat × List Nat), ps[i]? = some a → (walkR lead isl sg N b)[i]? = some q → H' a = some (.tup [.int (q.1 : Nat), .str (S q.2)])) → Q (.ref p) H'
theorem ok_until {N : Nat} (hN : N ≤ 900) {kl : Nat} {gl gi : Addr} {trl tri : Hp → Prop} {lead : Nat → Nat → Nat} {isl : Nat → Bool} {sg : List Nat} (hl3 : sg.length ≤ 3) (T : BT mg) (c_lead : CV P w K mg base kl gl trl (spL N sg.length lead)) (c_is_last : CV P w K mg base kl gi tri (spI N isl))
    (stl : ∀ H H', Same H H' → trl H → trl H') (sti : ∀ H H', Same H H' → tri H → tri H') (hlead : ∀ t i, t < N → i < sg.length → lead t i < N)
    {f : Addr} {fd : FuncData} (F : Def K mg "_walked_until" s_until f fd) (b : Binds K fd ["signs", "begin", "lead", "is_last"] []) : Cal P w K mg base (kl + 1) "_walked_until" (spUntil N gl gi trl tri lead isl sg) [] := by
  refine cal0 F b .nil sc_until (fun vs H Q E h => ?_) (fun cdv A outer s H vs Q E hr h => ?_)
  · obtain ⟨b, rfl, _⟩ := h; rfl
  · obtain ⟨b, rfl, hbN, htl, hti, k⟩ := h
    refine ⟨_, (pss_cons (ps_set (i := 4) sc_until.nd rfl (.inl rfl) (pe_lst (pa_cons (pv 1) pa_nil)))
      (pss_cons (ps_set (i := 5) sc_until.nd rfl (.inr rfl) (pe_disp (pps_cons (pv 1) pe_str pps_nil) rfl rfl (by decide) (by decide)))
      (pss_cons (ps_set (i := 6) sc_until.nd rfl (.inl rfl) pe_int)
      (pss_cons (ps_while PassesOwn.never (PW.pt (pw_and (pt_cmpR op_lt (pv 6) (pe_callB (lenK K) (by rfl) T.m_len PySem.boot_len (pa_cons (pv 4) pa_nil)) (nomark _)) (pw_and1 (pt_not (pt_val (pe_callV (i := 3) c_is_last hr (Nat.le_refl _) rfl (.inl rfl) (pa_cons (pe_ix (ixl K) (pv 4) (pe_un un_neg pe_int) (fun _ _ => rfl)) pa_nil))))))) 
        (pss_cons (ps_for PassesOwn.never rfl (pi_enumX (by rfl) T.m_enumerate (pa_cons (pv 0) pa_nil)) (tupK K 2 (pgs_cons (pg_name (i := 7) sc_until.nd rfl (.inl rfl)) (pgs_cons (pg_name (i := 8) sc_until.nd rfl (.inl rfl)) pgs_nil))) 
          (pss_cons (ps_set (i := 9) sc_until.nd rfl (.inl rfl) (pe_callV (i := 2) c_lead hr (Nat.le_refl _) rfl (.inl rfl) (pa_cons (pe_ix (ixl K) (pv 4) (pv 6) (fun _ _ => rfl)) (pa_cons (pv 7) pa_nil))))
          (pss_one (ps_if (pt_cmp (pc_dnotin (hu_of hr) (pv 9) (pv 5))) 
            (pss_cons (ps_dput (hu_of hr) (pv 5) (pv 9) (pe_op op_add_str (pe_dget (hu_of hr) (pv 5) (pe_ix (ixl K) (pv 4) (pv 6) (fun _ _ => rfl)) (fun _ _ => rfl)) (pv 8)) rfl)
            (pss_cons (ps_expr (pe_bm PySem.F.plainAttrs_list PySem.F.slot_list_append PySem.F.type_list_append mt_append (pv 4) (pa_cons (pv 9) pa_nil)))
            (pss_one (ps_if (pt_val (pe_callV (i := 3) c_is_last hr (Nat.le_refl _) rfl (.inl rfl) (pa_cons (pv 9) pa_nil))) 
              (pss_one ps_break
              )
             pss_nil)
            )))
           pss_nil)
          )))
        (pss_one (ps_aug (i := 6) sc_until.nd rfl (.inl rfl) pe_int ip_add)
        )))
      (pss_one (ps_ret (pe_lc (own := [("thing", 10)]) rfl sc_until.nd (pi_list (pv 4)) (blkOk_by (N := n_until) (sc := fnScope s_until) (by decide +kernel)) (fun _ _ _ _ _ => (pg_name (i := 10) sc_until.nd rfl (.inl rfl))) (fun _ _ _ _ _ => pts_nil) (fun _ _ _ _ _ => (pe_tup (pa_cons (pv 10) (pa_cons (pe_dget (hu_of hr) (pv 5) (pv 10) (fun _ _ => rfl)) pa_nil))))))
      ))))), ?_⟩
    refine ⟨_, rfl, (by show 1 ≤ sizeLine; decide), fun p hp => ?_⟩
    refine fun d hd => ⟨_, rfl, upd_same, [(Sum.inl (b : Int), .str (Str.ofString ""))], rfl, (by show 1 ≤ 15; decide), ?_⟩
    have hpd : p ≠ d := fun e => by rw [← e, upd_same] at hd; cases hd
    have hd0 : H d = none := by rw [upd_ne hpd.symm] at hd; exact hd
    have em : mergeK [] [((Sum.inl (b : Int) : Key), V.str (Str.ofString ""))] = thK [(b, [])] := by rw [s_nil]; rfl
    rw [em]
    generalize hH1 : upd (upd (upd H p (.lst [.int (b : Nat)])) d (.dK [])) d (.dK (thK [(b, [])])) = H1
    have s1 : Same H H1 := by rw [← hH1]; exact sm_put (sm_put (sm_put (Same.refl H) hp) hd0) hd0
    have hp1 : H1 p = some (.lst (thV [(b, [])])) := by rw [← hH1, upd_ne hpd, upd_ne hpd, upd_same]; rfl
    have hd1 : H1 d = some (.dK (thK [(b, [])])) := by rw [← hH1, upd_same]
    clear hH1 em hd
    refine ⟨fun m σ H' => ∃ (L : WL) (at_ : Nat) (s7 s8 s9 : Option V), m = N + 1 - at_ ∧ at_ ≤ N + 1 ∧ σ = [some (.str (S sg)), some (.int (b : Nat)), some (.ref gl), some (.ref gi), some (.ref p), some (.ref d), some (.int (at_ : Nat)), s7, s8, s9, none] ∧
      Same H H' ∧ H' p = some (.lst (thV L)) ∧ H' d = some (.dK (thK L)) ∧ WOk N L ∧ 0 < L.length ∧ outW lead isl sg (N + 1 - at_) at_ L = walkR lead isl sg N b, ?_, ?_⟩
    · exact ⟨N + 1, [(b, [])], 0, _, _, _, rfl, Nat.zero_le _, rfl, s1, hp1, hd1, ⟨by simp, fun q hq => by rw [List.mem_singleton.mp hq]; exact hbN, fun q hq => by rw [List.mem_singleton.mp hq]; exact Nat.zero_lt_one⟩, Nat.zero_lt_one, rfl⟩
    rintro m σ H2 ⟨L, at_, s7, s8, s9, rfl, hat, rfl, s2, hp2, hd2, hW, hL0, hO⟩
    have hLN := hW.len
    have hlen : (thV L).length = L.length := by unfold thV; rw [List.length_map]
    refine ⟨_, rfl, _, rfl, p, _, rfl, .inl (SqL.of hp2), _, _, rfl, rfl, _, rfl, ?_⟩
    rw [hlen]
    refine ite2 (fun hc => ?_) (fun hc => ?_)
    · have hal : at_ < L.length := by rw [decide_eq_true_eq] at hc; omega
      obtain ⟨⟨t, r⟩, htr⟩ : ∃ q, L[at_]? = some q := ⟨_, List.getElem?_eq_getElem hal⟩
      obtain ⟨⟨tl, rl⟩, htl'⟩ : ∃ q, L[L.length - 1]? = some q := ⟨_, List.getElem?_eq_getElem (by omega)⟩
      have hlast : lastOf L = tl := by unfold lastOf; rw [List.getLast?_eq_getElem?, htl']; rfl
      have hti2 := sti _ _ s2 hti
      refine ⟨rfl, hti2, ?_⟩
      refine ⟨_, rfl, _, rfl, p, thV L, -1, .int (tl : Nat), rfl, rfl, SqL.of hp2, at_neg (by rw [hlen]; omega) (by rw [hlen]; unfold thV; rw [List.getElem?_map, htl']; rfl), ?_⟩
      refine ⟨hti2, tl, rfl, hW.lt _ (List.mem_of_getElem? htl'), fun H3 h3 => ?_⟩
      have s3 := s2.trans h3
      have hp3 := h3 _ _ hp2
      have hd3 := h3 _ _ hd2
      refine ⟨_, rfl, ?_⟩
      obtain ⟨n', hn'⟩ : ∃ n', N + 1 - at_ = n' + 1 := ⟨N - at_, by omega⟩
      cases hil : isl tl with
      | true =>
        refine iteN rfl ?_
        have hO' : L = walkR lead isl sg N b := by
          rw [← hO, hn']
          show L = (match L[at_]? with | none => L | some (t, r) => if isl (lastOf L) = true then L else outW lead isl sg n' (at_ + 1) (inn lead isl t r 0 sg L))
          rw [htr]
          show L = if isl (lastOf L) = true then L else _
          rw [hlast, if_pos hil]
        refine ⟨_, rfl, p, rfl, ⟨_, SqL.of hp3⟩, fun D hD => ?_⟩
        refine lc_keepH keep_same (walk_list (K := K) (a := p) (xs := thV L)) hD (by rw [hlen]; exact small1000 (by omega)) (fun j y H => ∃ t, y = .ref t ∧ ∀ q, L[j]? = some q → H t = some (.tup [.int (q.1 : Nat), .str (S q.2)])) (fun H r => SqL.of (r _ _ hp3))
          (fun _ _ _ _ _ r ⟨t, e, h⟩ => ⟨t, e, fun q hq => r _ _ (h q hq)⟩) (fun _ _ _ _ _ _ hDa ⟨t, e, h⟩ => ⟨t, e, fun q hq => by rw [upd_ne (ne_of (h q hq) hDa (by intro h; cases h))]; exact h q hq⟩) (fun i x H4 H4' acc R hi r hDa hy hR => ?_) (fun ys H4 hly hg r4 hDs => ?_)
        · obtain ⟨rfl, e⟩ := hy
          obtain ⟨q, hq, rfl⟩ := thV_get e
          refine ⟨rfl, _, rfl, _, rfl, _, rfl, d, _, rfl, .inl ⟨_, Sum.inl (q.1 : Int), .inl (r _ _ hd3), rfl, (thK_some hW.nd (List.mem_of_getElem? hq)).symm⟩, (by show 2 ≤ sizeLine; decide), fun t ht => hR _ _ (sm_new ht) ⟨t, rfl, fun q' h => by rw [hq] at h; rw [← Option.some.inj h]; exact upd_same⟩⟩
        · obtain ⟨ps, rfl⟩ := refs_of fun j y e => let ⟨t, e', _⟩ := hg j y e; ⟨t, e'⟩
          refine k D ps H4 (s3.trans r4) (s3.free hD) hDs ?_ fun i a q h1 h2 => ?_
          · rw [← hO', ← hlen, ← hly, List.length_map]
          · rw [← hO'] at h2
            obtain ⟨t, e, h⟩ := hg i (.ref a) (by rw [List.getElem?_map, h1]; rfl)
            cases e
            exact h q h2
      | false =>
        refine iteB rfl ?_
        have hO' : outW lead isl sg (N + 1 - (at_ + 1)) (at_ + 1) (inn lead isl t r 0 sg L) = walkR lead isl sg N b := by
          rw [← hO, hn', show N + 1 - (at_ + 1) = n' by omega]
          symm
          show (match L[at_]? with | none => L | some (t, r) => if isl (lastOf L) = true then L else outW lead isl sg n' (at_ + 1) (inn lead isl t r 0 sg L)) = _
          rw [htr]
          show (if isl (lastOf L) = true then L else _) = _
          rw [hlast, if_neg (by rw [hil]; exact Bool.false_ne_true)]
        refine ⟨fun σ' H' => ∃ (L' : WL) (s7 s8 s9 : Option V), σ' = [some (.str (S sg)), some (.int (b : Nat)), some (.ref gl), some (.ref gi), some (.ref p), some (.ref d), some (.int ((at_ + 1 : Nat) : Int)), s7, s8, s9, none] ∧
          Same H H' ∧ H' p = some (.lst (thV L')) ∧ H' d = some (.dK (thK L')) ∧ WOk N L' ∧ 0 < L'.length ∧ outW lead isl sg (N + 1 - (at_ + 1)) (at_ + 1) L' = walkR lead isl sg N b,
          fun σ' H' ⟨L', s7, s8, s9, a1, a2, a3, a4, a5, a6, a7⟩ => ⟨N + 1 - (at_ + 1), by omega, L', at_ + 1, s7, s8, s9, rfl, by omega, a1, a2, a3, a4, a5, a6, a7⟩, ?_⟩
        have htN : t < N := hW.lt _ (List.mem_of_getElem? htr)
        refine ⟨_, rfl, .str (S sg), .txt (S sg), rfl, rfl, trivial, for_it (walk_enumX (K := K) (S := .txt (S sg)) (xs := sg.map fun c => V.str (S [c]))) (fun i σ H' => ∃ (L' : WL) (s7 s8 s9 : Option V), σ = [some (.str (S sg)), some (.int (b : Nat)), some (.ref gl), some (.ref gi), some (.ref p), some (.ref d), some (.int (at_ : Nat)), s7, s8, s9, none] ∧
          Same H H' ∧ H' p = some (.lst (thV L')) ∧ H' d = some (.dK (thK L')) ∧ WOk N L' ∧ 0 < L'.length ∧ L'[at_]? = some (t, r) ∧ inn lead isl t r i (sg.drop i) L' = inn lead isl t r 0 sg L)
          ⟨L, _, _, _, rfl, s3, hp3, hd3, hW, hL0, htr, rfl⟩ (fun _ _ _ _ _ => by show (sg.map fun c => V.str (S [c])) = _; simp [S]) ?_ ?_⟩
        · rintro i x σ H4 H4' hi ⟨L', s7, s8, s9, rfl, s4, hp4, hd4, hW4, hL4, htr4, hinn⟩ ⟨T, x1, x2, rfl, hT, rfl, e1, e2⟩
          obtain rfl : V.int (i : Nat) = x1 := Option.some.inj e1
          have e2 : (sg.map fun c => V.str (S [c]))[i]? = some x2 := e2
          rw [List.getElem?_map] at e2
          rw [List.length_map] at hi
          have hci : sg[i]? = some sg[i] := List.getElem?_eq_getElem hi
          generalize hcc : sg[i] = c at hci
          rw [hci] at e2
          obtain rfl : V.str (S [c]) = x2 := Option.some.inj e2
          have hdrop : sg.drop i = c :: sg.drop (i + 1) := by rw [List.drop_eq_getElem_cons hi, hcc]
          have sT : Same H4 (upd H4 T (.tup [.int (i : Nat), .str (S [c])])) := sm_new hT
          refine ⟨T, _, rfl, .inl (.inl upd_same), rfl, _, _, rfl, _, _, rfl, rfl, ?_⟩
          generalize hH5 : upd H4 T (.tup [.int (i : Nat), .str (S [c])]) = H5 at sT
          clear hH5
          have s5 := s4.trans sT
          have hp5 := sT _ _ hp4
          have hd5 := sT _ _ hd4
          have hlen4 : (thV L').length = L'.length := by unfold thV; rw [List.length_map]
          have hat4 : (thV L')[at_]? = some (.int (t : Nat)) := by unfold thV; rw [List.getElem?_map, htr4]; rfl
          have htl5 := stl _ _ s5 htl
          refine ⟨rfl, htl5, ?_⟩
          refine ⟨_, rfl, _, rfl, p, thV L', at_, .int (t : Nat), rfl, rfl, SqL.of hp5, at_of rfl hat4, _, rfl, htl5, t, i, rfl, htN, hi, fun H6 h6 => ?_⟩
          have s6 := s5.trans h6
          have hp6 := h6 _ _ hp5
          have hd6 := h6 _ _ hd5
          have hfN := hlead t i htN hi
          generalize hf : lead t i = f at hfN
          refine ⟨_, rfl, _, rfl, d, valV (thK L') (Sum.inl (f : Int)), rfl, .inl ⟨_, _, .inl hd6, rfl, rfl⟩, _, rfl, ?_⟩
          by_cases hin : f ∈ L'.map (·.1)
          · obtain ⟨⟨f', rf⟩, hmem, rfl⟩ := List.mem_map.mp hin
            rw [thK_some hW4.nd hmem]
            refine iteN rfl ?_
            refine ⟨L', _, _, _, rfl, s6, hp6, hd6, hW4, hL4, htr4, ?_⟩
            rw [← hinn, hdrop]
            show _ = if lead t i ∈ L'.map (·.1) then inn lead isl t r (i + 1) (sg.drop (i + 1)) L' else _
            rw [if_pos (by rw [hf]; exact hin)]
          · rw [thK_none hin]
            refine iteB rfl ?_
            have hrl := hW4.rl _ (List.mem_of_getElem? htr4)
            have hLN4 := hW4.len
            refine ⟨_, rfl, _, rfl, _, rfl, p, thV L', at_, .int (t : Nat), rfl, rfl, SqL.of hp6, at_of rfl hat4, d, .str (S r), rfl, .inl ⟨_, Sum.inl (t : Int), .inl hd6, rfl, (thK_some hW4.nd (List.mem_of_getElem? htr4)).symm⟩, ?_⟩
            have hr2 : r.length < L'.length := hrl
            refine ⟨_, rfl, S r, S [c], rfl, rfl, by rw [S_len, S_len]; exact sz (m := 1000) (by simp; omega) (by decide), ?_⟩
            refine ⟨_, rfl, _, rfl, d, _, rfl, DPut.k (k := Sum.inl (f : Int)) hd6 (by unfold thK; rw [List.length_map]; exact small1000 (by omega)), ?_⟩
            rw [S_cat, putK_th hin]
            have s7' : Same H (upd H6 d (.dK (thK (L' ++ [(f, r ++ [c])])))) := sm_put s6 hd0
            have hp7 : (upd H6 d (.dK (thK (L' ++ [(f, r ++ [c])])))) p = some (.lst (thV L')) := by rw [upd_ne hpd]; exact hp6
            refine ⟨_, rfl, .inl ⟨rfl, _, SqL.of hp7⟩, _, rfl, p, thV L', _, rfl, rfl, hp7, by rw [hlen4]; exact small1000 (by omega), ?_⟩
            have evV : thV L' ++ [V.int (f : Nat)] = thV (L' ++ [(f, r ++ [c])]) := by unfold thV; rw [List.map_append]; rfl
            rw [evV]
            have hW5 : WOk N (L' ++ [(f, r ++ [c])]) := hW4.put hfN hin (by rw [List.length_append, List.length_singleton]; exact hr2)
            have htr5 : (L' ++ [(f, r ++ [c])])[at_]? = some (t, r) := by rw [List.getElem?_append_left (List.getElem?_eq_some_iff.mp htr4).1]; exact htr4
            generalize hL5 : L' ++ [(f, r ++ [c])] = L5 at *
            have hL5p : 0 < L5.length := by rw [← hL5, List.length_append]; exact Nat.lt_add_left _ Nat.zero_lt_one
            have s8' : Same H (upd (upd H6 d (.dK (thK L5))) p (.lst (thV L5))) := sm_put s7' hp
            have hp8 : (upd (upd H6 d (.dK (thK L5))) p (.lst (thV L5))) p = some (.lst (thV L5)) := upd_same
            have hd8 : (upd (upd H6 d (.dK (thK L5))) p (.lst (thV L5))) d = some (.dK (thK L5)) := by rw [upd_ne hpd.symm, upd_same]
            generalize upd (upd H6 d (.dK (thK L5))) p (.lst (thV L5)) = H8 at s8' hp8 hd8 ⊢
            have hti8 := sti _ _ s8' hti
            refine ⟨rfl, hti8, _, rfl, hti8, f, rfl, hfN, fun H9 h9 => ?_⟩
            refine ⟨_, rfl, ?_⟩
            have hstep : inn lead isl t r i (sg.drop i) L' = if isl f = true then L5 else inn lead isl t r (i + 1) (sg.drop (i + 1)) L5 := by
              rw [hdrop]
              show (if lead t i ∈ L'.map (·.1) then _ else if isl (lead t i) = true then L' ++ [(lead t i, r ++ [c])] else inn lead isl t r (i + 1) (sg.drop (i + 1)) (L' ++ [(lead t i, r ++ [c])])) = _
              rw [if_neg (by rw [hf]; exact hin), hf, hL5]
            cases hif : isl f with
            | true =>
              refine iteB rfl ?_
              have hend : L5 = inn lead isl t r 0 sg L := by rw [← hinn, hstep, if_pos hif]
              refine ⟨_, rfl, _, _, rfl, rfl, ?_⟩
              exact ⟨L5, _, _, _, rfl, s8'.trans h9, h9 _ _ hp8, h9 _ _ hd8, hW5, hL5p, by rw [hend]; exact hO'⟩
            | false =>
              refine iteN rfl ?_
              refine ⟨L5, _, _, _, rfl, s8'.trans h9, h9 _ _ hp8, h9 _ _ hd8, hW5, hL5p, htr5, ?_⟩
              rw [← hinn, hstep, if_neg (by rw [hif]; exact Bool.false_ne_true)]
        · rintro σ H4 ⟨L', s7, s8, s9, rfl, s4, hp4, hd4, hW4, hL4, htr4, hinn⟩
          have hend : L' = inn lead isl t r 0 sg L := by
            rw [← hinn, List.length_map, List.drop_length]; rfl
          refine ⟨_, rfl, _, _, rfl, rfl, ?_⟩
          exact ⟨L', _, _, _, rfl, s4, hp4, hd4, hW4, hL4, by rw [hend]; exact hO'⟩
    · have hal : L.length ≤ at_ := by simp only [decide_eq_true_eq] at hc; omega
      have hO' : L = walkR lead isl sg N b := by
        rw [← hO]
        cases hn : N + 1 - at_ with
        | zero => rfl
        | succ n' =>
          show L = (match L[at_]? with | none => L | some (t, r) => _)
          rw [List.getElem?_eq_none hal]
      have s3 := s2
      have hp3 := hp2
      have hd3 := hd2
      refine ⟨_, rfl, p, rfl, ⟨_, SqL.of hp3⟩, fun D hD => ?_⟩
      refine lc_keepH keep_same (walk_list (K := K) (a := p) (xs := thV L)) hD (by rw [hlen]; exact small1000 (by omega)) (fun j y H => ∃ t, y = .ref t ∧ ∀ q, L[j]? = some q → H t = some (.tup [.int (q.1 : Nat), .str (S q.2)])) (fun H r => SqL.of (r _ _ hp3))
        (fun _ _ _ _ _ r ⟨t, e, h⟩ => ⟨t, e, fun q hq => r _ _ (h q hq)⟩) (fun _ _ _ _ _ _ hDa ⟨t, e, h⟩ => ⟨t, e, fun q hq => by rw [upd_ne (ne_of (h q hq) hDa (by intro h; cases h))]; exact h q hq⟩) (fun i x H4 H4' acc R hi r hDa hy hR => ?_) (fun ys H4 hly hg r4 hDs => ?_)
      · obtain ⟨rfl, e⟩ := hy
        obtain ⟨q, hq, rfl⟩ := thV_get e
        refine ⟨rfl, _, rfl, _, rfl, _, rfl, d, _, rfl, .inl ⟨_, Sum.inl (q.1 : Int), .inl (r _ _ hd3), rfl, (thK_some hW.nd (List.mem_of_getElem? hq)).symm⟩, (by show 2 ≤ sizeLine; decide), fun t ht => hR _ _ (sm_new ht) ⟨t, rfl, fun q' h => by rw [hq] at h; rw [← Option.some.inj h]; exact upd_same⟩⟩
      · obtain ⟨ps, rfl⟩ := refs_of fun j y e => let ⟨t, e', _⟩ := hg j y e; ⟨t, e'⟩
        refine k D ps H4 (s3.trans r4) (s3.free hD) hDs ?_ fun i a q h1 h2 => ?_
        · rw [← hO', ← hlen, ← hly, List.length_map]
        · rw [← hO'] at h2
          obtain ⟨t, e, h⟩ := hg i (.ref a) (by rw [List.getElem?_map, h1]; rfl)
          cases e
          exact h q h2
end
end Toy
set_option maxHeartbeats 4000000
namespace Toy
open PySem L2 C8 SX LX
theorem inn_ok {lead : Nat → Nat → Nat} {isl : Nat → Bool} {N t : Nat} {r : List Nat} : ∀ (cs : List Nat) (i : Nat) (L : WL), WOk N L → (t, r) ∈ L → (∀ j, i ≤ j → j < i + cs.length → lead t j < N) → WOk N (inn lead isl t r i cs L)
  | [], _, L, h, _, _ => h
  | c :: cs, i, L, h, ht, hl => by
    have ih : ∀ L : WL, WOk N L → (t, r) ∈ L → WOk N (inn lead isl t r (i + 1) cs L) := fun L h ht => inn_ok (isl := isl) cs (i + 1) L h ht fun j h1 h2 => hl j (by omega) (by simp only [List.length_cons]; omega)
    show WOk N (if lead t i ∈ L.map (·.1) then _ else if isl (lead t i) = true then _ else _)
    by_cases hin : lead t i ∈ L.map (·.1)
    · rw [if_pos hin]; exact ih L h ht
    · rw [if_neg hin]
      have hp : WOk N (L ++ [(lead t i, r ++ [c])]) := h.put (hl i (Nat.le_refl _) (by simp only [List.length_cons]; omega)) hin (by have := h.rl _ ht; rw [List.length_append, List.length_singleton]; exact this)
      by_cases hb : isl (lead t i) = true
      · rw [if_pos hb]; exact hp
      · rw [if_neg hb]; exact ih _ hp (List.mem_append_left _ ht)
theorem outW_ok {lead : Nat → Nat → Nat} {isl : Nat → Bool} {sg : List Nat} {N : Nat} (hlead : ∀ t i, t < N → i < sg.length → lead t i < N) : ∀ (n at_ : Nat) (L : WL), WOk N L → WOk N (outW lead isl sg n at_ L)
  | 0, _, L, h => h
  | n + 1, at_, L, h => by
    show WOk N (match L[at_]? with | none => L | some (t, r) => if isl (lastOf L) = true then L else outW lead isl sg n (at_ + 1) (inn lead isl t r 0 sg L))
    cases e : L[at_]? with
    | none => exact h
    | some q =>
      have hm := List.mem_of_getElem? e
      show WOk N (if isl (lastOf L) = true then L else _)
      by_cases hb : isl (lastOf L) = true
      · rw [if_pos hb]; exact h
      · rw [if_neg hb]
        exact outW_ok hlead n _ _ (inn_ok sg 0 L h hm fun j _ h2 => hlead _ _ (h.lt _ hm) (by omega))
theorem walkR_ok {lead : Nat → Nat → Nat} {isl : Nat → Bool} {sg : List Nat} {N b : Nat} (hb : b < N) (hlead : ∀ t i, t < N → i < sg.length → lead t i < N) : WOk N (walkR lead isl sg N b) :=
  outW_ok hlead _ _ _ ⟨by simp, fun q hq => by rw [List.mem_singleton.mp hq]; exact hb, fun q hq => by rw [List.mem_singleton.mp hq]; exact Nat.zero_lt_one⟩
theorem lastOf_of {L : WL} {p : Nat × List Nat} (h : L[L.length - 1]? = some p) : lastOf L = p.1 := by
  unfold lastOf; rw [List.getLast?_eq_getElem?, h]; rfl
theorem inn_G {lead : Nat → Nat → Nat} {isl : Nat → Bool} {t : Nat} {r : List Nat} : ∀ (cs : List Nat) (i : Nat) (L : WL), inn lead isl t r i cs L = UW.innG lead isl t r i cs L
  | [], _, _ => rfl
  | c :: cs, i, L => by
    unfold inn UW.innG
    rw [inn_G cs, inn_G cs]
theorem outW_G {lead : Nat → Nat → Nat} {isl : Nat → Bool} {sg : List Nat} : ∀ (n at_ : Nat) (L : WL), outW lead isl sg n at_ L = UW.outG lead isl sg lastOf n at_ L
  | 0, _, _ => rfl
  | n + 1, at_, L => by
    unfold outW UW.outG
    cases e : L[at_]? with
    | none => rfl
    | some p =>
      obtain ⟨t, r⟩ := p
      show (if isl (lastOf L) = true then L else _) = (if isl (lastOf L) = true then L else _)
      rw [outW_G n, inn_G]
theorem run_lt {lead : Nat → Nat → Nat} {N m : Nat} (hl : ∀ t i, t < N → i < m → lead t i < N) : ∀ (w : List Nat) (b : Nat), b < N → UW.Rw m w → UW.run lead b w < N
  | [], _, h, _ => h
  | c :: w, b, h, hw => run_lt hl w _ (hl b c h (hw c List.mem_cons_self)) fun d hd => hw d (List.mem_cons_of_mem _ hd)
theorem walkR_ends {N : Nat} {lead : Nat → Nat → Nat} {isl : Nat → Bool} {sg : List Nat} (nd : sg.Nodup) (hl : ∀ t i, t < N → i < sg.length → lead t i < N) {b : Nat} (hb : b < N) : UW.Ends lead isl sg b (walkR lead isl sg N b) := by
  unfold walkR
  rw [outW_G]
  cases e : isl b with
  | true =>
    have : UW.outG lead isl sg lastOf (N + 1) 0 [(b, [])] = [(b, [])] := by
      unfold UW.outG
      show (if isl b = true then _ else _) = _
      rw [if_pos e]
    rw [this]
    exact .inl ⟨⟨0, 0, UW.St.init⟩, (b, []), rfl, e⟩
  | false =>
    refine UW.outG_ok nd (fun L p h => lastOf_of h) (N := N) (fun L k i st => ?_) _ _ _ (by omega) UW.St.init (fun q hq => by rw [List.mem_singleton.mp hq]; exact e)
    have hnd := st.nd
    unfold UW.conv at hnd
    rw [List.map_map] at hnd
    have := nodup_len N (L.map (·.1)) hnd fun x hx => by
      obtain ⟨p, hp, rfl⟩ := List.mem_map.mp hx
      obtain ⟨j, hj⟩ := List.getElem?_of_mem hp
      obtain ⟨h1, h2⟩ := st.row j _ (UW.conv_get hj)
      have h1 : UW.run lead b (p.2.map fun c => sg.idxOf c) = p.1 := h1
      rw [← h1]
      exact run_lt hl _ _ hb h2
    rwa [List.length_map] at this
theorem ends_ne {lead : Nat → Nat → Nat} {isl : Nat → Bool} {sg : List Nat} {b : Nat} {L : WL} (h : UW.Ends lead isl sg b L) : L ≠ [] := by
  rcases h with ⟨_, p, hp, _⟩ | ⟨_, h, _⟩
  · intro e; rw [e] at hp; cases hp
  · exact h
def foundN (isl : Nat → Bool) (L : WL) : Option (List Nat) := if isl (lastOf L) = true then some (L.getLast?.getD (0, [])).2 else none
theorem foundN_last {isl : Nat → Bool} {L : WL} (h : L ≠ []) : foundN isl L = lastRow isl L := by
  unfold foundN lastRow
  have hp := List.length_pos_iff.mpr h
  have e : L[L.length - 1]? = some L[L.length - 1] := List.getElem?_eq_getElem (by omega)
  rw [lastOf_of e, List.getLast?_eq_getElem?, e]
  rfl
def optT : Option (List Nat) → V
  | some r => .str (S r)
  | none => .non
section
variable {P : Program} {w : World} {K : PySem.W.Frag} {mg : Str → Option Value} {base : Heap}
theorem CV.mono {j k : Nat} {g : Addr} {tr : Hp → Prop} {sp : Sp} (c : CV P w K mg base j g tr sp) (h : j ≤ k) : CV P w K mg base k g tr sp := by
  rcases c with ⟨fd, ps, F, kept, bd⟩ | ⟨F, ps, fr, ws, nsp, N, hsp, B, htr⟩
  · exact .inl ⟨fd, ps, F.mono h, kept, bd⟩
  · exact .inr ⟨F, ps, fr, ws, nsp, N.mono h, hsp, B, htr⟩
abbrev s_least : Stmt := top 16
abbrev n_least : List Str := ["signs", "begin", "lead", "is_good", "thing", "row"]
theorem sc_least : FnScope n_least ["signs", "begin", "lead", "is_good"] (fnScope s_least) := fnScope_by (by decide +kernel)
def spLeastN (N : Nat) (gl gi : Addr) (trl tri : Hp → Prop) (lead : Nat → Nat → Nat) (isl : Nat → Bool) (sg : List Nat) : Sp := fun vs H Q _ => ∃ b : Nat, vs = [.str (S sg), .int (b : Nat), .ref gl, .ref gi] ∧ b < N ∧ trl H ∧ tri H ∧
  ∀ (H' : Hp), Same H H' → Q (optT (foundN isl (walkR lead isl sg N b))) H'
theorem ok_leastN {N : Nat} {isl : Nat → Bool} {kl : Nat} {gl gi : Addr} {trl tri : Hp → Prop} {lead : Nat → Nat → Nat} {sg : List Nat} (T : BT mg) (nd : sg.Nodup) (hlead : ∀ t i, t < N → i < sg.length → lead t i < N) (c_is_good : CV P w K mg base kl gi tri (spI N isl)) (sti : ∀ H H', Same H H' → tri H → tri H')
    (c_until : Cal P w K mg base kl "_walked_until" (spUntil N gl gi trl tri lead isl sg) [])
    {f : Addr} {fd : FuncData} (F : Def K mg "least_way" s_least f fd) (b : Binds K fd ["signs", "begin", "lead", "is_good"] []) : Cal P w K mg base (kl + 1) "least_way" (spLeastN N gl gi trl tri lead isl sg) [] := by
  refine cal0 F b .nil sc_least (fun vs H Q E h => ?_) (fun cdv A outer s H vs Q E hr h => ?_)
  · obtain ⟨b, rfl, _⟩ := h; rfl
  · obtain ⟨b, rfl, hb, htl, hti, k⟩ := h
    refine ⟨_, (pss_cons (ps_asg (pe_ix (ixl K) (pe_c c_until hr (by first | decide | omega) (by rfl) (pa_cons (pv 0) (pa_cons (pv 1) (pa_cons (pv 2) (pa_cons (pv 3) pa_nil))))) (pe_un un_neg pe_int) (fun _ _ => rfl)) (tupK K 2 (pgs_cons (pg_name (i := 4) sc_least.nd rfl (.inl rfl)) (pgs_cons (pg_name (i := 5) sc_least.nd rfl (.inl rfl)) pgs_nil))))
      (pss_one (ps_ret (pe_ifExp (pt_val (pe_callV (i := 3) c_is_good hr (Nat.le_refl _) rfl (.inl rfl) (pa_cons (pv 4) pa_nil))) (pv 5) pe_non))
      )), ?_⟩
    have hW := walkR_ok (isl := isl) hb hlead
    have hne := ends_ne (walkR_ends (isl := isl) nd hlead hb)
    have hpos := List.length_pos_iff.mpr hne
    obtain ⟨q, hq⟩ : ∃ q, (walkR lead isl sg N b)[(walkR lead isl sg N b).length - 1]? = some q := ⟨_, List.getElem?_eq_getElem (by omega)⟩
    have hlo : lastOf (walkR lead isl sg N b) = q.1 := lastOf_of hq
    have hro : ((walkR lead isl sg N b).getLast?.getD (0, [])).2 = q.2 := by rw [List.getLast?_eq_getElem?, hq]; rfl
    unfold foundN at k
    rw [hlo, hro] at k
    refine ⟨_, rfl, _, rfl, _, rfl, _, rfl, b, rfl, hb, htl, hti, fun p ps H1 s1 n1 hp1 hpl hps => ?_⟩
    have hlen : (ps.map V.ref).length = (walkR lead isl sg N b).length := by rw [List.length_map, hpl]
    obtain ⟨a, ha⟩ : ∃ a, ps[(walkR lead isl sg N b).length - 1]? = some a := ⟨_, List.getElem?_eq_getElem (by rw [hpl]; omega)⟩
    have h1 := hps _ a q ha hq
    refine ⟨_, rfl, p, ps.map V.ref, -1, .ref a, rfl, rfl, SqL.of hp1, at_neg (by rw [hlen]; exact hpos) (by rw [hlen, List.getElem?_map, ha]; rfl), ?_⟩
    refine ⟨a, _, rfl, .inl (.inl h1), rfl, _, _, rfl, _, _, rfl, rfl, rfl, ?_⟩
    have ht1 := sti _ _ s1 hti
    refine ⟨ht1, _, rfl, ht1, q.1, rfl, hW.lt _ (List.mem_of_getElem? hq), fun H2 s2 => ?_⟩
    cases e : isl q.1 with
    | true =>
      refine ⟨true, rfl, iteT ⟨_, rfl, ?_⟩⟩
      rw [e] at k
      exact k H2 (s1.trans s2)
    | false =>
      refine ⟨false, rfl, iteN rfl ?_⟩
      rw [e] at k
      exact k H2 (s1.trans s2)
end
end Toy
set_option maxHeartbeats 2000000
namespace LX
open PySem PySem.Spec PyProof.Rows L2 C8 SX NdefX
def CellO (c : Addr) (v : V) : HO := .ext fun h => ∃ u, RelV v u ∧ h.IsCell c (some u)
theorem cellO_ok {P : Program} {w : World} {H : Hp} {h : Heap} {c : Addr} {v : V} {u : Value} (r : RelV v u) (e : h.IsCell c (some u)) : ObjOk P w H h c (CellO c v) :=
  ⟨⟨u, r, e⟩, let ⟨o, ho, _⟩ := e; ⟨o, ho⟩, fun _ _ ⟨u', r', o, q, z⟩ k => ⟨u', r', o, k o q, z⟩⟩
theorem cellO_at {P : Program} {w : World} {H : Hp} {h : Heap} {c : Addr} {v : V} (x : HOk P w H h) (e : H c = some (CellO c v)) : ∃ u, RelV v u ∧ h.IsCell c (some u) := by
  have q : ObjOk P w H h c (.ext fun h => ∃ u, RelV v u ∧ h.IsCell c (some u)) := x c _ e
  exact q.1
theorem cellO_tup {c : Addr} {v : V} {xs : List V} : CellO c v ≠ .tup xs := fun z => by
  have z' : HO.ext _ = HO.tup xs := z
  cases z'
theorem cellO_own {c x : Addr} {v : V} : CellO c v ≠ .own x := fun z => by
  have z' : HO.ext _ = HO.own x := z
  cases z'
theorem cellO_frz {c : Addr} {v : V} {o : Obj} {u : HO} : CellO c v ≠ .frz o u := fun z => by
  have z' : HO.ext _ = HO.frz o u := z
  cases z'
theorem cellO_tbl {c : Addr} {v : V} {ps : Array Value} : CellO c v ≠ .tbl ps := fun z => by
  have z' : HO.ext _ = HO.tbl ps := z
  cases z'
theorem calE {P : Program} {w : World} {K : PySem.W.Frag} {mg : Str → Option Value} {base : Heap} {x y : Str} {st s0 : Stmt} {e0 : Expr} {p0 : Pos} {i : Nat} {f : Addr} {fd : FuncData} {N ps : List Str} {ds : List Value} {dvs : List V} {k : Nat} {sp : Sp} {cdv : Value} (F : C8.Def K mg x st f fd) (hc : fd.code = cdv) (b : Binds K fd ps ds) (d : Vals dvs ds) (S : FnScope N ps (C8.fnScope st)) (len : ∀ vs H Q E, sp vs H Q E → vs.length = ps.length)
    (hst : C8.fnBody st = [s0, .Return (some e0) p0]) (hi : N[i]? = some y) (hy : (C8.fnScope st).names.lookup y = some .cell)
    (hbody : ∀ (A : Around) (outer : List Env) (s : Shared) (H : Hp) (vs : List V) (Q : VK) (E : XK), Room k (A.deeper (envOfC x (C8.fnScope st) s.heap.objs.size f cdv)) → sp vs H Q E →
      ∃ t te, PS (cxOf C8.CX0 P w K mg base N x (C8.fnScope st) f cdv A outer s H E).nox s0 t ∧ PE (cxOf C8.CX0 P w K mg base N x (C8.fnScope st) f cdv A outer s H E).nox e0 te ∧
        t { nx := fun σ H' => te σ H' fun v H2 => ∃ w0, σ[i]? = some (some w0) ∧ ∀ c, (cellsFrom (s.heap.objs.size + 1) (C8.fnScope st).names []).lookup y = some c → H2 c = none → H c = none → Q v (upd H2 c (CellO c w0)), rt := fun _ _ => False } (start N vs) H) : C8.Cal P w K mg base (k + 1) x sp dvs := by
  refine ⟨f, fd, ps, ds, ?_, F.mgf, F.kp, b, d⟩
  obtain ⟨oc, od, dV, kV, doc, pm, an, cdv', ct, osl, rfl, lk, hcd⟩ := F.fn.ex
  obtain rfl : cdv' = cdv := hc
  refine ⟨len, fun A outer s H args us vs Q E hr e1 hb r hsp => ?_⟩
  have hl := len _ _ _ _ hsp
  have KX : K.In s.heap := e1.mod.kin.keeps fun b o e => (e1.bs b o e).1
  have lim : s.heap.NoLimit := e1.mod.nolimit.keeps fun b o e => (e1.bs b o e).1
  have hkind : ∀ y ∈ ps.zip us, (C8.fnScope st).names.lookup y.1 = some .local ∨ ((C8.fnScope st).names.lookup y.1 = some .cell ∧ ((cellsFrom (s.heap.objs.size + 1) (C8.fnScope st).names []).lookup y.1).isSome = true) := fun ⟨n, v⟩ hy => by
    rcases S.par n (List.of_mem_zip hy).1 with q | q
    · exact .inl q
    · exact .inr ⟨q, PySem.W.cellsFrom_some _ _ _ (.inl q)⟩
  refine codeAny_call_function hr.depth (KX _ _ lk) rfl S.co S.gen rfl (PySem.W.codeRec_of KX hcd) (hb _ _ _ _ ?_)
  refine wpAny_newFunctionEnv_cells S.kind hkind fun env he s1 xx => ?_
  subst he
  refine ⟨lim.keeps xx.toInCall.keep, codeAny_func ?_⟩
  obtain ⟨t, te, ht, hte, hq⟩ := hbody A outer s H vs Q E (hr.deeper _) hsp
  have I : Inv (cxOf C8.CX0 P w K mg base N x (C8.fnScope st) f cdv' A outer s H E) [] (start N vs) H s1 := inv_start S hr.hd e1 hl r xx
  obtain ⟨c0, hc0⟩ := cell_has (n := s.heap.objs.size + 1) hy
  have ht' : PS (cxOf C8.CX0 P w K mg base N x (C8.fnScope st) f cdv' A outer s H E) s0 t := ⟨fun pins s σ H D I hw => wpAny_mono (ht.run pins s σ H D (I.wish _) hw) (fun _ _ q => q.unwish) fun _ _ z => False.elim z⟩
  have hte' := hte.nox
  show wpAny _ _ (execs (C8.fnBody st) _) _ _ _
  rw [hst]
  refine wpAny_execs_cons (wpAny_mono (ht'.run [] s1 (start N vs) H _ I hq) (fun fl s' hs => ?_) fun e s' hs => hs)
  cases fl with
  | ret u =>
    obtain ⟨_, _, _, _, _, q⟩ := hs
    exact False.elim q
  | brk =>
    obtain ⟨_, _, _, q⟩ := hs
    exact False.elim q
  | cont =>
    obtain ⟨_, _, _, q⟩ := hs
    exact False.elim q
  | next =>
    obtain ⟨σ', H', J, q⟩ := hs
    refine wpAny_execs_cons (wpAny_Return_some (wpAny_mono (hte'.run [] s' σ' H' _ J q) (fun u s2 hu => ?_) fun e s' hs => hs))
    obtain ⟨v, H2, J2, rv, w0, hw, hQ⟩ := hu
    have hcN : H2 c0 = none := J2.freeC y c0 hc0
    have hge : s.heap.objs.size ≤ c0 := Nat.le_of_lt (xx.above y c0 (PySem.mem_of_lookup hc0))
    have hHc : H c0 = none := e1.hok.fresh hge
    have hsc : s.heap.get? c0 = none := Heap.get?_none_of_le hge
    obtain ⟨m, _, hloc⟩ := J2.loc
    obtain ⟨u0, ru, hlook⟩ := hloc i y w0 hi hw (.inr (.inl hy))
    have hcell : s2.heap.IsCell c0 (some u0) := by
      rcases hlook with ⟨hk, _⟩ | ⟨_, c, ec, hcell⟩
      · have hk : (C8.fnScope st).names.lookup y = some .local := hk
        rw [hy] at hk; cases hk
      · have ec : (cellsFrom (s.heap.objs.size + 1) (C8.fnScope st).names []).lookup y = some c := ec
        rw [hc0] at ec; cases ec
        exact hcell
    have B : Un (frs outer) [] H H2 s.heap s2.heap := J2.base
    have ne : ∀ b o, s.heap.get? b = some o → b ≠ c0 := fun b o e z => by rw [z, hsc] at e; cases e
    refine ⟨v, upd H2 c0 (CellO c0 w0), J2.os, J2.bare, ⟨B.keep, B.slot, fun b o e n hx => by rw [upd_ne (ne b o e)]; exact B.free b o e n hx, B.there, fun b xs e => ?_, fun b o u e => ?_, fun b ps e => ?_⟩, J2.hok.laidN (fun _ _ q => q) hcN (cellO_ok ru hcell), rv, hQ c0 hc0 hcN hHc⟩
    · rw [upd_ne (fun z => by rw [z, hHc] at e; cases e)]; exact B.tups b xs e
    · rw [upd_ne (fun z => by rw [z, hHc] at e; cases e)]; exact B.frzs b o u e
    · rw [upd_ne (fun z => by rw [z, hHc] at e; cases e)]; exact B.tbls b ps e
def tUpE (S : Addr → V → Sp → Prop) (t : TA) : TE := fun σ H Q => t σ H fun vs H1 => ∃ (c : Addr) (w0 : V) (sp : Sp), H1 c = some (CellO c w0) ∧ S c w0 sp ∧ sp vs (delH H1 c) (fun v H2 => H2 c = none → Q v (upd H2 c (CellO c w0))) C8.E0
theorem pe_cUpE {X : Cx} {k j : Nat} {g : Addr} {x y : Str} {p pos : Pos} {e : Expr} {es : List Expr} {t : TA} {S : Addr → V → Sp → Prop} (named : X.mg x = some (.ref g)) (kept : PySem.W.keepIn X.K (.ref g) = true)
    (hS : ∀ c w0 sp (base' : Heap), S c w0 sp → X.K.In base' → base'.Ns mainGlobals X.mg → BCells [(y, c)] [y] [some w0] base' → Cal X.prog X.w X.K X.mg base' k x sp []) (room : Room j X.A) (hk : k ≤ j) (hg : Gl X x) (ha : PA X (e :: es) t) (hdb : (x == ("__debug__" : Str)) = false := by decide)
    (he : starEach (e :: es) X.env = (false, eval e X.env) :: starEach es X.env := by rfl) (hpl : (backTo pos (starEach es X.env)).any (·.1) = false := by rfl) : PE X (.Call (.Name x p) (e :: es) [] pos) (tUpE S t) := by
  constructor
  intro pins s σ H Q I want
  refine wpAny_Call_Name_kw (ld_glob I hg named ?_ hdb)
  refine PySem.W.callWith_K (h₀ := X.base) I.ok.mod.kin kept (thn (ha.run pos pins s σ H _ I want) ?_) he hpl
  rintro us s1 ⟨vs, H1, I1, rel, c, w0, sp, ec, s0, q⟩
  refine ⟨I1.kIn, ?_⟩
  obtain ⟨u0, ru, hcell⟩ := cellO_at I1.hok ec
  have e0 := I1.env0
  have nfr : ∀ b ∈ frs X.stack, b ≠ c := fun b hb z => by
    have := e0.frf b hb
    rw [z, ec] at this; cases this
  have kk : ∀ b o, X.base.get? b = some o → (upB s1.heap X.base [c]).get? b = some o := fun b o e => upB_get (e0.bs b o e).1 (.inl (by rw [e]; rfl))
  obtain ⟨mb, b1, b2⟩ := e0.mod.blt
  have hdel : ∀ b, H1 b = none → delH H1 c b = none := fun b n => by
    by_cases z : b = c
    · rw [z]; exact delH_same
    · rw [delH_ne z]; exact n
  have hok2 : HOk X.prog X.w (delH H1 c) s1.heap := fun b u eb => by
    by_cases z : b = c
    · rw [z, delH_same] at eb; cases eb
    · rw [delH_ne z] at eb
      refine (I1.hok b u eb).stay (fun _ _ _ q => q) (fun d q => ?_) fun d xs q => ?_
      · rw [delH_ne (fun z => by rw [z, ec] at q; exact cellO_own (Option.some.inj q))]; exact q
      · rw [delH_ne (fun z => by rw [z, ec] at q; exact cellO_tup (Option.some.inj q))]; exact q
  have E1 : Env0 X.prog X.w X.K X.mg (upB s1.heap X.base [c]) X.A X.stack s1 (delH H1 c) := by
    refine ⟨e0.frames, ⟨fun b o e => kk b o (e0.mod.kin b o e), e0.mod.glob.keeps kk, ⟨mb, b1.keeps kk, b2⟩, e0.mod.nolimit.keeps kk⟩, fun b o e => ?_, Nat.le_of_eq (hidT_size _ _), funs_up e0.funs fun L hL hm => nfr L hL (List.mem_singleton.mp hm), fun b hb => hdel b (e0.frf b hb), hok2, e0.bare⟩
    obtain ⟨e1, n⟩ := of_upB e
    refine ⟨e1, ?_⟩
    rcases n with n | n
    · obtain ⟨o', q⟩ := Option.isSome_iff_exists.mp n
      exact hdel b (e0.bs b o' q).2
    · rw [List.mem_singleton.mp n]; exact delH_same
  have hcB : (upB s1.heap X.base [c]).IsCell c (some u0) := let ⟨o, h1, h2⟩ := hcell; ⟨o, upB_get h1 (.inr (List.mem_singleton.mpr rfl)), h2⟩
  have BC : BCells [(y, c)] [y] [some w0] (upB s1.heap X.base [c]) := by
    refine ⟨rfl, fun z c' e => ?_, fun a b c' h1 h2 => ?_, fun i z e => ?_⟩
    · have : c' = c := by
        by_cases hz : z = y
        · subst hz; rw [List.lookup_cons_self] at e; exact (Option.some.inj e).symm
        · rw [List.lookup_cons, beq_eq_false_iff_ne.mpr hz] at e; cases e
      subst this; exact ⟨_, hcB⟩
    · have one : ∀ z, [(y, c)].lookup z = some c' → z = y := fun z e => by
        by_cases hz : z = y
        · exact hz
        · rw [List.lookup_cons, beq_eq_false_iff_ne.mpr hz] at e; cases e
      rw [one a h1, one b h2]
    · cases i with
      | succ i => cases e
      | zero =>
        cases e
        exact ⟨c, List.lookup_cons_self .., fun v hv => by cases hv; exact ⟨u0, ru, hcB⟩⟩
  obtain ⟨f, fd, ps, ds, F, named', _, bd, dv⟩ := (hS c w0 sp _ s0 E1.mod.kin E1.mod.glob BC).ex
  rw [named] at named'
  cases named'
  cases dv
  have count : (us ++ []).length = ps.length := by rw [List.append_nil, ← rel.length]; exact F.len _ _ _ _ q
  have bs := bd s1 us I1.kIn count
  rw [List.append_nil] at bs
  refine wpAny_call (codeAny_mono (F.run X.A X.stack s1 (delH H1 c) ⟨us, []⟩ us vs (fun v H2 => H2 c = none → Q v (upd H2 c (CellO c w0))) C8.E0 (room.mono hk) E1 bs rel q) fun r t' got => ?_)
  match r, got with
  | .ok (.ret u), got =>
    obtain ⟨v, H', os, bare, un, hok, rv, qq⟩ := got
    obtain ⟨oc, hoc, hdc⟩ := hcell
    have hH' : H' c = none := un.free c oc hoc delH_same (fun z => nomatch z)
    have nc : c ∉ frs X.stack := fun z => nfr c z rfl
    have hc2 : t'.heap.IsCell c (some u0) := ⟨oc, un.keep c oc hoc delH_same nc (fun z => nomatch z), hdc⟩
    have nec : ∀ b, H1 b = none → b ≠ c := fun b n z => by rw [z, ec] at n; cases n
    refine I1.after ⟨v, upd H' c (CellO c w0), os, bare, ⟨fun b o h n => un.keep b o h (hdel b n), fun b o h n => un.slot b o h (hdel b n), fun b o h n hx => ?_, un.there, fun b xs h => ?_, fun b o u h => ?_, fun b ps h => ?_⟩, hok.laidN (fun _ _ q => q) hH' (cellO_ok ru hc2), rv, qq hH'⟩
    · rw [upd_ne (nec b n)]; exact un.free b o h (hdel b n) hx
    · have hb : b ≠ c := fun z => by rw [z, ec] at h; exact cellO_tup (Option.some.inj h)
      rw [upd_ne hb]; exact un.tups b xs (by rw [delH_ne hb]; exact h)
    · have hb : b ≠ c := fun z => by rw [z, ec] at h; exact cellO_frz (Option.some.inj h)
      rw [upd_ne hb]; exact un.frzs b o u (by rw [delH_ne hb]; exact h)
    · have hb : b ≠ c := fun z => by rw [z, ec] at h; exact cellO_tbl (Option.some.inj h)
      obtain ⟨more, e⟩ := un.tbls b ps (by rw [delH_ne hb]; exact h)
      exact ⟨more, by rw [upd_ne hb]; exact e⟩
end LX
set_option maxHeartbeats 2000000
namespace LX
open PySem PySem.Spec PyProof.Rows L2 C8 SX NdefX
def putC : List (Addr × V) → Hp → Hp
  | [], H => H
  | p :: l, H => upd (putC l H) p.1 (CellO p.1 p.2)
def delC : List Addr → Hp → Hp
  | [], H => H
  | c :: l, H => delH (delC l H) c
theorem putC_out {b : Addr} {H : Hp} : ∀ {l : List (Addr × V)}, (∀ p ∈ l, p.1 ≠ b) → putC l H b = H b
  | [], _ => rfl
  | p :: l, h => by
    show upd (putC l H) p.1 _ b = _
    rw [upd_ne (fun e => h p List.mem_cons_self e.symm), putC_out fun q hq => h q (List.mem_cons_of_mem _ hq)]
theorem putC_in {H : Hp} : ∀ {l : List (Addr × V)}, (l.map (·.1)).Nodup → ∀ p ∈ l, putC l H p.1 = some (CellO p.1 p.2)
  | q :: l, nd, p, hp => by
    rw [List.map_cons, List.nodup_cons] at nd
    show upd (putC l H) q.1 _ p.1 = _
    rcases List.mem_cons.mp hp with rfl | hp
    · exact upd_same
    · rw [upd_ne (fun e => nd.1 (by rw [← e]; exact List.mem_map.mpr ⟨p, hp, rfl⟩)), putC_in nd.2 p hp]
theorem delC_in {H : Hp} {b : Addr} : ∀ {l : List Addr}, b ∈ l → delC l H b = none
  | c :: l, h => by
    show delH (delC l H) c b = none
    by_cases e : b = c
    · rw [e]; exact delH_same
    · rw [delH_ne e]; exact delC_in ((List.mem_cons.mp h).resolve_left e)
theorem delC_out {H : Hp} {b : Addr} : ∀ {l : List Addr}, b ∉ l → delC l H b = H b
  | [], _ => rfl
  | c :: l, h => by
    show delH (delC l H) c b = H b
    rw [delH_ne (fun e => h (by rw [e]; exact List.mem_cons_self)), delC_out fun z => h (List.mem_cons_of_mem _ z)]
theorem delC_none {H : Hp} {b : Addr} {l : List Addr} (n : H b = none) : delC l H b = none := by
  by_cases e : b ∈ l
  · exact delC_in e
  · rw [delC_out e]; exact n
theorem delC_some {H : Hp} {b : Addr} {l : List Addr} {o : HO} (h : delC l H b = some o) : H b = some o ∧ b ∉ l := by
  by_cases e : b ∈ l
  · rw [delC_in e] at h; cases h
  · rw [delC_out e] at h; exact ⟨h, e⟩
theorem hok_putC {P : Program} {w : World} {H : Hp} {h : Heap} (x : HOk P w H h) : ∀ {l : List (Addr × V)}, (l.map (·.1)).Nodup → (∀ p ∈ l, H p.1 = none ∧ ∃ u, RelV p.2 u ∧ h.IsCell p.1 (some u)) → HOk P w (putC l H) h
  | [], _, _ => x
  | p :: l, nd, a => by
    rw [List.map_cons, List.nodup_cons] at nd
    obtain ⟨n, u, r, c⟩ := a p List.mem_cons_self
    have hn : putC l H p.1 = none := by
      rw [putC_out fun q hq e => nd.1 (by rw [← e]; exact List.mem_map.mpr ⟨q, hq, rfl⟩)]; exact n
    exact (hok_putC x nd.2 fun q hq => a q (List.mem_cons_of_mem _ hq)).laidN (fun _ _ q => q) hn (cellO_ok r c)
theorem un_putC {fs ex : List Addr} {H H2 : Hp} {h h' : Heap} (B : Un fs ex H H2 h h') {l : List (Addr × V)} (a : ∀ p ∈ l, h.get? p.1 = none ∧ H p.1 = none) : Un fs ex H (putC l H2) h h' := by
  have ng : ∀ b o, h.get? b = some o → ∀ p ∈ l, p.1 ≠ b := fun b o e p hp z => by rw [← z, (a p hp).1] at e; cases e
  have nh : ∀ b o, H b = some o → ∀ p ∈ l, p.1 ≠ b := fun b o e p hp z => by rw [← z, (a p hp).2] at e; cases e
  refine ⟨B.keep, B.slot, fun b o e n hx => by rw [putC_out (ng b o e)]; exact B.free b o e n hx, B.there, fun b xs e => ?_, fun b o u e => ?_, fun b ps e => ?_⟩
  · rw [putC_out (nh b _ e)]; exact B.tups b xs e
  · rw [putC_out (nh b _ e)]; exact B.frzs b o u e
  · rw [putC_out (nh b _ e)]; exact B.tbls b ps e
theorem un_back {fs ex : List Addr} {H H' : Hp} {h h' : Heap} {l : List (Addr × V)} (un : Un fs ex (delC (l.map (·.1)) H) H' h h') (a : ∀ p ∈ l, H p.1 = some (CellO p.1 p.2)) : Un fs ex H (putC l H') h h' := by
  have nn : ∀ b, H b = none → ∀ p ∈ l, p.1 ≠ b := fun b n p hp z => by rw [← z, a p hp] at n; cases n
  have nd : ∀ b o, H b = some o → (∀ w, o ≠ CellO b w) → b ∉ l.map (·.1) ∧ ∀ p ∈ l, p.1 ≠ b := fun b o e ne => by
    have k : ∀ p ∈ l, p.1 ≠ b := fun p hp z => by
      have q := a p hp
      rw [z, e] at q
      exact ne _ (Option.some.inj q)
    refine ⟨fun hm => ?_, k⟩
    obtain ⟨p, hp, z⟩ := List.mem_map.mp hm
    exact k p hp z
  refine ⟨fun b o h n => un.keep b o h (delC_none n), fun b o h n => un.slot b o h (delC_none n), fun b o h n hx => ?_, un.there, fun b xs h => ?_, fun b o u h => ?_, fun b ps h => ?_⟩
  · rw [putC_out (nn b n)]; exact un.free b o h (delC_none n) hx
  · obtain ⟨n1, n2⟩ := nd b _ h fun w z => cellO_tup z.symm
    rw [putC_out n2]; exact un.tups b xs (by rw [delC_out n1]; exact h)
  · obtain ⟨n1, n2⟩ := nd b _ h fun w z => cellO_frz z.symm
    rw [putC_out n2]; exact un.frzs b o u (by rw [delC_out n1]; exact h)
  · obtain ⟨n1, n2⟩ := nd b _ h fun w z => cellO_tbl z.symm
    obtain ⟨more, e⟩ := un.tbls b ps (by rw [delC_out n1]; exact h)
    exact ⟨more, by rw [putC_out n2]; exact e⟩
theorem cells_list {sc : Scope} {n : Nat} : ∀ (ys : List (Nat × Str)), (∀ q ∈ ys, sc.names.lookup q.2 = some .cell) → ∃ cs : List Addr, cs.length = ys.length ∧ ∀ (i : Nat) q c, ys[i]? = some q → cs[i]? = some c → (cellsFrom n sc.names []).lookup q.2 = some c
  | [], _ => ⟨[], rfl, fun i q c e _ => by cases e⟩
  | y :: ys, hy => by
    obtain ⟨cs, h1, h2⟩ := cells_list ys fun q hq => hy q (List.mem_cons_of_mem _ hq)
    obtain ⟨c0, hc0⟩ := cell_has (n := n) (hy y List.mem_cons_self)
    refine ⟨c0 :: cs, by rw [List.length_cons, List.length_cons, h1], fun i q c e1 e2 => ?_⟩
    cases i with
    | zero => cases e1; cases e2; exact hc0
    | succ i => exact h2 i q c e1 e2
theorem execs_append (env : Env) (rest : List Stmt) : ∀ l : List Stmt, execs (l ++ rest) env = (execs l env >>= fun f => match f with | .next => execs rest env | f => pure f)
  | [] => by
    rw [List.nil_append]
    show _ = ((pure Flow.next : Sem Flow) >>= _)
    rw [pure_bind]
  | s :: l => by
    rw [List.cons_append, execs_cons, execs_cons, bind_assoc]
    congr 1
    funext f
    cases f with
    | next => exact execs_append env rest l
    | _ => rw [pure_bind]
theorem wpAny_execs_append {M : Model} {A : Around} {E : Value → Shared → Prop} {s : Shared} {env : Env} {l rest : List Stmt} {Q : Flow → Shared → Prop}
    (h : wpAny M A (execs l env) (fun f s' => match f with | .next => wpAny M A (execs rest env) Q E s' | f => Q f s') E s) : wpAny M A (execs (l ++ rest) env) Q E s := by
  rw [execs_append]
  refine wpAny_bind (wpAny_mono h (fun f s' q => ?_) fun _ _ q => q)
  cases f with
  | next => exact q
  | _ => exact wpAny_pure q
theorem calEs {P : Program} {w : World} {K : PySem.W.Frag} {mg : Str → Option Value} {base : Heap} {x : Str} {st : Stmt} {ss : List Stmt} {e0 : Expr} {p0 : Pos} {f : Addr} {fd : FuncData} {N ps : List Str} {ds : List Value} {dvs : List V} {k : Nat} {sp : Sp} {cdv : Value} (ys : List (Nat × Str)) (F : C8.Def K mg x st f fd) (hc : fd.code = cdv) (b : Binds K fd ps ds) (d : Vals dvs ds) (S : FnScope N ps (C8.fnScope st)) (len : ∀ vs H Q E, sp vs H Q E → vs.length = ps.length)
    (hst : C8.fnBody st = ss ++ [.Return (some e0) p0]) (hy : ∀ q ∈ ys, N[q.1]? = some q.2 ∧ (C8.fnScope st).names.lookup q.2 = some .cell) (hnd : (ys.map (·.2)).Nodup)
    (hbody : ∀ (A : Around) (outer : List Env) (s : Shared) (H : Hp) (vs : List V) (Q : VK) (E : XK), Room k (A.deeper (envOfC x (C8.fnScope st) s.heap.objs.size f cdv)) → sp vs H Q E →
      ∃ t te, PSs (cxOf C8.CX0 P w K mg base N x (C8.fnScope st) f cdv A outer s H E).nox ss t ∧ PE (cxOf C8.CX0 P w K mg base N x (C8.fnScope st) f cdv A outer s H E).nox e0 te ∧
        t { nx := fun σ H' => te σ H' fun v H2 => ∃ ws : List V, ws.length = ys.length ∧ (∀ (i : Nat) q z, ys[i]? = some q → ws[i]? = some z → σ[q.1]? = some (some z)) ∧
          ∀ cs : List Addr, cs.length = ys.length → (∀ (i : Nat) q c, ys[i]? = some q → cs[i]? = some c → (cellsFrom (s.heap.objs.size + 1) (C8.fnScope st).names []).lookup q.2 = some c) → (∀ c ∈ cs, H2 c = none ∧ H c = none) → cs.Nodup → Q v (putC (cs.zip ws) H2), rt := fun _ _ => False } (start N vs) H) : C8.Cal P w K mg base (k + 1) x sp dvs := by
  refine ⟨f, fd, ps, ds, ?_, F.mgf, F.kp, b, d⟩
  obtain ⟨oc, od, dV, kV, doc, pm, an, cdv', ct, osl, rfl, lk, hcd⟩ := F.fn.ex
  obtain rfl : cdv' = cdv := hc
  refine ⟨len, fun A outer s H args us vs Q E hr e1 hb r hsp => ?_⟩
  have hl := len _ _ _ _ hsp
  have KX : K.In s.heap := e1.mod.kin.keeps fun b o e => (e1.bs b o e).1
  have lim : s.heap.NoLimit := e1.mod.nolimit.keeps fun b o e => (e1.bs b o e).1
  have hkind : ∀ y ∈ ps.zip us, (C8.fnScope st).names.lookup y.1 = some .local ∨ ((C8.fnScope st).names.lookup y.1 = some .cell ∧ ((cellsFrom (s.heap.objs.size + 1) (C8.fnScope st).names []).lookup y.1).isSome = true) := fun ⟨n, v⟩ hy => by
    rcases S.par n (List.of_mem_zip hy).1 with q | q
    · exact .inl q
    · exact .inr ⟨q, PySem.W.cellsFrom_some _ _ _ (.inl q)⟩
  refine codeAny_call_function hr.depth (KX _ _ lk) rfl S.co S.gen rfl (PySem.W.codeRec_of KX hcd) (hb _ _ _ _ ?_)
  refine wpAny_newFunctionEnv_cells S.kind hkind fun env he s1 xx => ?_
  subst he
  refine ⟨lim.keeps xx.toInCall.keep, codeAny_func ?_⟩
  obtain ⟨t, te, ht, hte, hq⟩ := hbody A outer s H vs Q E (hr.deeper _) hsp
  have I : Inv (cxOf C8.CX0 P w K mg base N x (C8.fnScope st) f cdv' A outer s H E) [] (start N vs) H s1 := inv_start S hr.hd e1 hl r xx
  have ht' := ht.nox
  have hte' := hte.nox
  show wpAny _ _ (execs (C8.fnBody st) _) _ _ _
  rw [hst]
  refine wpAny_execs_append (wpAny_mono (ht'.run [] s1 (start N vs) H _ I hq) (fun fl s' hs => ?_) fun e s' hs => hs)
  cases fl with
  | ret u =>
    obtain ⟨_, _, _, _, _, q⟩ := hs
    exact False.elim q
  | brk =>
    obtain ⟨_, _, _, q⟩ := hs
    exact False.elim q
  | cont =>
    obtain ⟨_, _, _, q⟩ := hs
    exact False.elim q
  | next =>
    obtain ⟨σ', H', J, q⟩ := hs
    refine wpAny_execs_cons (wpAny_Return_some (wpAny_mono (hte'.run [] s' σ' H' _ J q) (fun u s2 hu => ?_) fun e s' hs => hs))
    obtain ⟨v, H2, J2, rv, ws, hwl, hw, hQ⟩ := hu
    obtain ⟨cs, hcl, hcs⟩ := cells_list (n := s.heap.objs.size + 1) (sc := C8.fnScope st) ys fun q hq => (hy q hq).2
    have at_ : ∀ (i : Nat) c, cs[i]? = some c → ∃ q, ys[i]? = some q ∧ (cellsFrom (s.heap.objs.size + 1) (C8.fnScope st).names []).lookup q.2 = some c := fun i c e => by
      have hi : i < ys.length := by rw [← hcl]; exact (List.getElem?_eq_some_iff.mp e).1
      exact ⟨ys[i], List.getElem?_eq_getElem hi, hcs i _ c (List.getElem?_eq_getElem hi) e⟩
    have hge : ∀ c ∈ cs, s.heap.objs.size ≤ c := fun c hc => by
      obtain ⟨i, hi⟩ := List.getElem?_of_mem hc
      obtain ⟨q, _, e⟩ := at_ i c hi
      exact Nat.le_of_lt (xx.above q.2 c (PySem.mem_of_lookup e))
    have h2n : ∀ c ∈ cs, H2 c = none := fun c hc => by
      obtain ⟨i, hi⟩ := List.getElem?_of_mem hc
      obtain ⟨q, _, e⟩ := at_ i c hi
      exact J2.freeC q.2 c e
    have hn : ∀ c ∈ cs, H c = none := fun c hc => e1.hok.fresh (hge c hc)
    have hg : ∀ c ∈ cs, s.heap.get? c = none := fun c hc => Heap.get?_none_of_le (hge c hc)
    have hcnd : cs.Nodup := by
      rw [List.nodup_iff_pairwise_ne, List.pairwise_iff_getElem]
      intro i j hi hj hij e
      obtain ⟨p, hp, ep⟩ := at_ i _ (List.getElem?_eq_getElem hi)
      obtain ⟨q, hq, eq⟩ := at_ j _ (List.getElem?_eq_getElem hj)
      rw [← e] at eq
      have := J2.ok.inj p.2 q.2 _ ep eq
      rw [List.nodup_iff_pairwise_ne, List.pairwise_iff_getElem] at hnd
      have hpi := (List.getElem?_eq_some_iff.mp hp)
      have hqi := (List.getElem?_eq_some_iff.mp hq)
      refine hnd i j (by rw [List.length_map]; exact hpi.1) (by rw [List.length_map]; exact hqi.1) hij ?_
      rw [List.getElem_map, List.getElem_map, hpi.2, hqi.2]
      exact this
    obtain ⟨m, _, hloc⟩ := J2.loc
    have hzip : (cs.zip ws).map (·.1) = cs := by
      rw [List.map_fst_zip]; omega
    have hcell : ∀ p ∈ cs.zip ws, H2 p.1 = none ∧ ∃ u, RelV p.2 u ∧ s2.heap.IsCell p.1 (some u) := fun p hp => by
      refine ⟨h2n _ (List.of_mem_zip hp).1, ?_⟩
      obtain ⟨i, hi⟩ := List.getElem?_of_mem hp
      rw [List.getElem?_zip_eq_some] at hi
      obtain ⟨q, hq, eq⟩ := at_ i p.1 hi.1
      have hyq := hy q (List.mem_of_getElem? hq)
      obtain ⟨u0, ru, hlook⟩ := hloc q.1 q.2 p.2 hyq.1 (hw i q p.2 hq hi.2) (.inr (.inl hyq.2))
      refine ⟨u0, ru, ?_⟩
      rcases hlook with ⟨hk, _⟩ | ⟨_, c, ec, hcell⟩
      · have hk : (C8.fnScope st).names.lookup q.2 = some .local := hk
        rw [hyq.2] at hk; cases hk
      · have ec : (cellsFrom (s.heap.objs.size + 1) (C8.fnScope st).names []).lookup q.2 = some c := ec
        rw [eq] at ec; cases ec
        exact hcell
    have B : Un (frs outer) [] H H2 s.heap s2.heap := J2.base
    refine ⟨v, putC (cs.zip ws) H2, J2.os, J2.bare, un_putC B fun p hp => ⟨hg _ (List.of_mem_zip hp).1, hn _ (List.of_mem_zip hp).1⟩, hok_putC J2.hok (by rw [hzip]; exact hcnd) hcell, rv, hQ cs hcl hcs (fun c hc => ⟨h2n c hc, hn c hc⟩) hcnd⟩
structure HCells (cl : List (Str × Addr)) (fr : List Str) (ws : List (Option V)) (cw : List (Addr × V)) (H : Hp) : Prop where
  nd : (cw.map (·.1)).Nodup
  len : ws.length = fr.length
  all : ∀ y c, cl.lookup y = some c → c ∈ cw.map (·.1)
  inj : ∀ x y c, cl.lookup x = some c → cl.lookup y = some c → x = y
  has : ∀ (i : Nat) (y : Str), fr[i]? = some y → ∃ c, cl.lookup y = some c ∧ ∀ v, ws[i]? = some (some v) → (c, v) ∈ cw
  heap : ∀ p ∈ cw, H p.1 = some (CellO p.1 p.2)
section
variable {X : Cx} {pins : List (Addr × Obj)} {σ : L2.St} {H : Hp} {s : Shared}
theorem env_upM (I : Inv X pins σ H s) {cs : List Addr} {cw : List (Addr × V)} (hc : ∀ c ∈ cs, ∃ x, X.env.cells.lookup x = some c ∧ X.fn x = true) (hd : ∀ p ∈ cw, H p.1 = some (CellO p.1 p.2)) :
    Env0 X.prog X.w X.K X.mg (upB s.heap X.base (cs ++ cw.map (·.1))) X.A X.stack s (delC (cw.map (·.1)) H) := by
  have e1 := env_up I hc
  have e0 := I.env0
  have kk : ∀ b o, (upB s.heap X.base cs).get? b = some o → (upB s.heap X.base (cs ++ cw.map (·.1))).get? b = some o := fun b o e => by
    obtain ⟨h1, h2⟩ := of_upB e
    exact upB_get h1 (h2.imp id fun z => List.mem_append_left _ z)
  obtain ⟨mb, b1, b2⟩ := e1.mod.blt
  have nfr : ∀ b ∈ frs X.stack, b ∉ cw.map (·.1) := fun b hb hm => by
    obtain ⟨p, hp, z⟩ := List.mem_map.mp hm
    have h1 := e0.frf b hb
    have h2 := hd p hp
    rw [z, h1] at h2; cases h2
  have hok2 : HOk X.prog X.w (delC (cw.map (·.1)) H) s.heap := fun b u eb => by
    obtain ⟨q, n⟩ := delC_some eb
    have out : ∀ d o, H d = some o → (∀ w, o ≠ CellO d w) → delC (cw.map (·.1)) H d = some o := fun d o e ne => by
      rw [delC_out fun hm => ?_]
      · exact e
      obtain ⟨p, hp, z⟩ := List.mem_map.mp hm
      have h2 := hd p hp
      rw [z, e] at h2
      exact ne _ (Option.some.inj h2)
    exact (I.hok b u q).stay (fun _ _ _ q => q) (fun d q => out d _ q fun w z => cellO_own z.symm) fun d xs q => out d _ q fun w z => cellO_tup z.symm
  refine ⟨e0.frames, ⟨fun b o e => kk b o (e1.mod.kin b o e), e1.mod.glob.keeps kk, ⟨mb, b1.keeps kk, b2⟩, e1.mod.nolimit.keeps kk⟩, fun b o e => ?_, Nat.le_of_eq (hidT_size _ _), ?_, fun b hb => delC_none (e0.frf b hb), hok2, e0.bare⟩
  · obtain ⟨h1, h2⟩ := of_upB e
    refine ⟨h1, ?_⟩
    rcases h2 with h2 | h2
    · obtain ⟨o', q⟩ := Option.isSome_iff_exists.mp h2
      exact delC_none (e0.bs b o' q).2
    · rcases List.mem_append.mp h2 with h2 | h2
      · obtain ⟨x, hx, _⟩ := hc b h2
        exact delC_none (I.freeC x b hx)
      · exact delC_in h2
  · have key : ∀ {l : List Env}, s.heap.FunFrames (upB s.heap X.base cs) l → (∀ b ∈ frs l, b ∉ cw.map (·.1)) → s.heap.FunFrames (upB s.heap X.base (cs ++ cw.map (·.1))) l := fun {l} => by
      induction l with
      | nil => intro _ _; trivial
      | cons env rest ih =>
        rintro ⟨a, ⟨L, o, q1, q2, q3, q4⟩, r⟩ n
        have hm : L ∈ frs (env :: rest) := by unfold frs; rw [List.filterMap_cons, q1]; exact List.mem_cons_self
        refine ⟨a, ⟨L, o, q1, ?_, q3, q4⟩, ih r fun b hb => n b ?_⟩
        · cases q : (upB s.heap X.base (cs ++ cw.map (·.1))).get? L with
          | none => rfl
          | some o' =>
            obtain ⟨h1, h2⟩ := of_upB q
            have bad : ((X.base.get? L).isSome = true ∨ L ∈ cs) → False := fun z => by
              rw [upB_get h1 z] at q2; cases q2
            rcases h2 with z | z
            · exact absurd (.inl z) bad
            · rcases List.mem_append.mp z with z | z
              · exact absurd (.inr z) bad
              · exact absurd z (n L hm)
        · unfold frs at hb ⊢; rw [List.filterMap_cons, q1]; exact List.mem_cons_of_mem _ hb
    exact key e1.funs nfr
theorem BCells.more {cl : List (Str × Addr)} {fr : List Str} {ws : List (Option V)} {h base : Heap} {cs ds : List Addr} (B : BCells cl fr ws (upB h base cs)) : BCells cl fr ws (upB h base (cs ++ ds)) := by
  have kk : ∀ c v, (upB h base cs).IsCell c v → (upB h base (cs ++ ds)).IsCell c v := fun c v ⟨o, e, q⟩ => by
    obtain ⟨h1, h2⟩ := of_upB e
    exact ⟨o, upB_get h1 (h2.imp id fun z => List.mem_append_left _ z), q⟩
  exact ⟨B.len, fun y c e => let ⟨v, z⟩ := B.all y c e; ⟨v, kk c v z⟩, B.inj, fun i y e => let ⟨c, h1, h2⟩ := B.has i y e; ⟨c, h1, fun v hv => let ⟨u, r, z⟩ := h2 v hv; ⟨u, r, kk c _ z⟩⟩⟩
theorem HCells.up {cl : List (Str × Addr)} {fr : List Str} {ws : List (Option V)} {cw : List (Addr × V)} {P : Program} {w : World} {h base : Heap} {cs : List Addr} (C : HCells cl fr ws cw H) (hok : HOk P w H h) : BCells cl fr ws (upB h base (cs ++ cw.map (·.1))) := by
  have kk : ∀ p ∈ cw, ∃ u, RelV p.2 u ∧ (upB h base (cs ++ cw.map (·.1))).IsCell p.1 (some u) := fun p hp => by
    obtain ⟨u, r, o, h1, h2⟩ := cellO_at hok (C.heap p hp)
    exact ⟨u, r, o, upB_get h1 (.inr (List.mem_append_right _ (List.mem_map.mpr ⟨p, hp, rfl⟩))), h2⟩
  refine ⟨C.len, fun y c e => ?_, C.inj, fun i y e => ?_⟩
  · obtain ⟨p, hp, rfl⟩ := List.mem_map.mp (C.all y c e)
    obtain ⟨u, _, z⟩ := kk p hp
    exact ⟨_, z⟩
  · obtain ⟨c, h1, h2⟩ := C.has i y e
    exact ⟨c, h1, fun v hv => kk (c, v) (h2 v hv)⟩
def tUpM (js : List Nat) (frE : List Str) (S : List (Option V) → List (Str × Addr) → List (Option V) → Sp → Prop) (t : TA) : TE := fun σ H Q => t σ H fun vs H1 => ∃ (clE : List (Str × Addr)) (wsE : List (Option V)) (cw : List (Addr × V)) (sp : Sp), HCells clE frE wsE cw H1 ∧ S (js.map (slotAt σ)) clE wsE sp ∧ sp vs (delC (cw.map (·.1)) H1) (fun v H2 => (∀ p ∈ cw, H2 p.1 = none) → Q v (putC cw H2)) C8.E0
theorem pe_cUpM {k j : Nat} {g : Addr} {x : Str} {p pos : Pos} {e : Expr} {es : List Expr} {t : TA} {cl : List (Str × Addr)} {fr frE : List Str} {js : List Nat} {S : List (Option V) → List (Str × Addr) → List (Option V) → Sp → Prop} (named : X.mg x = some (.ref g)) (kept : PySem.W.keepIn X.K (.ref g) = true)
    (cp : X.Ok → Caps X cl fr js) (hfn : ∀ y c, cl.lookup y = some c → X.fn y = true)
    (hS : ∀ ws clE wsE sp (base' : Heap), S ws clE wsE sp → X.K.In base' → base'.Ns mainGlobals X.mg → BCells cl fr ws base' → BCells clE frE wsE base' → Cal X.prog X.w X.K X.mg base' k x sp []) (room : Room j X.A) (hk : k ≤ j) (hg : Gl X x) (ha : PA X (e :: es) t) (nd : cl.map (·.1) |>.Nodup) (hdb : (x == ("__debug__" : Str)) = false := by decide)
    (he : starEach (e :: es) X.env = (false, eval e X.env) :: starEach es X.env := by rfl) (hpl : (backTo pos (starEach es X.env)).any (·.1) = false := by rfl) : PE X (.Call (.Name x p) (e :: es) [] pos) (tUpM js frE S t) := by
  constructor
  intro pins s σ H Q I want
  refine wpAny_Call_Name_kw (ld_glob I hg named ?_ hdb)
  refine PySem.W.callWith_K (h₀ := X.base) I.ok.mod.kin kept (thn (ha.run pos pins s σ H _ I want) ?_) he hpl
  rintro us s1 ⟨vs, H1, I1, rel, clE, wsE, cw, sp, hC, s0, q⟩
  refine ⟨I1.kIn, ?_⟩
  have C := cp I1.ok
  have hcs : ∀ c ∈ cl.map (·.2), ∃ x, X.env.cells.lookup x = some c ∧ X.fn x = true := fun c hc => by
    obtain ⟨⟨y, c'⟩, hm, rfl⟩ := List.mem_map.mp hc
    have hl : cl.lookup y = some c' := by
      clear C hfn hS cp
      induction cl with
      | nil => cases hm
      | cons a r ih =>
        obtain ⟨z, d⟩ := a
        rw [List.map_cons, List.nodup_cons] at nd
        rcases List.mem_cons.mp hm with h | h
        · cases h; exact List.lookup_cons_self ..
        · have hne : (y == z) = false := by
            refine beq_eq_false_iff_ne.mpr fun e => nd.1 ?_
            rw [← e]; exact List.mem_map_of_mem (f := (·.1)) h
          rw [List.lookup_cons, hne]
          exact ih nd.2 h (List.mem_map_of_mem (f := (·.2)) h)
    exact ⟨y, C.sub y c' hl, hfn y c' hl⟩
  have E1 := env_upM I1 hcs hC.heap
  obtain ⟨f, fd, ps, ds, F, named', _, bd, dv⟩ := (hS _ clE wsE sp _ s0 E1.mod.kin E1.mod.glob (cells_up I1 C).more (hC.up I1.hok)).ex
  rw [named] at named'
  cases named'
  cases dv
  have count : (us ++ []).length = ps.length := by rw [List.append_nil, ← rel.length]; exact F.len _ _ _ _ q
  have bs := bd s1 us I1.kIn count
  rw [List.append_nil] at bs
  refine wpAny_call (codeAny_mono (F.run X.A X.stack s1 (delC (cw.map (·.1)) H1) ⟨us, []⟩ us vs (fun v H2 => (∀ p ∈ cw, H2 p.1 = none) → Q v (putC cw H2)) C8.E0 (room.mono hk) E1 bs rel q) fun r t' got => ?_)
  match r, got with
  | .ok (.ret u), got =>
    obtain ⟨v, H', os, bare, un, hok, rv, qq⟩ := got
    have e0 := I1.env0
    have key : ∀ p ∈ cw, H' p.1 = none ∧ ∃ u, RelV p.2 u ∧ t'.heap.IsCell p.1 (some u) := fun p hp => by
      obtain ⟨u, r, o, h1, h2⟩ := cellO_at I1.hok (hC.heap p hp)
      have hm : p.1 ∈ cw.map (·.1) := List.mem_map.mpr ⟨p, hp, rfl⟩
      have nc : p.1 ∉ frs X.stack := fun hb => by
        have h3 := e0.frf _ hb
        rw [hC.heap p hp] at h3; cases h3
      exact ⟨un.free p.1 o h1 (delC_in hm) (fun z => nomatch z), u, r, o, un.keep p.1 o h1 (delC_in hm) nc (fun z => nomatch z), h2⟩
    exact I1.after ⟨v, putC cw H', os, bare, un_back un hC.heap, hok_putC hok hC.nd key, rv, qq fun p hp => (key p hp).1⟩
end
end LX
set_option maxHeartbeats 2000000
namespace LX
open PySem PySem.Spec PyProof.Rows L2 C8 SX NdefX
theorem BCells.mono {cl : List (Str × Addr)} {fr : List Str} {ws : List (Option V)} {h base : Heap} {cs ds : List Addr} (B : BCells cl fr ws (upB h base cs)) (hs : ∀ c ∈ cs, c ∈ ds) : BCells cl fr ws (upB h base ds) := by
  have kk : ∀ c v, (upB h base cs).IsCell c v → (upB h base ds).IsCell c v := fun c v ⟨o, e, q⟩ => by
    obtain ⟨h1, h2⟩ := of_upB e
    exact ⟨o, upB_get h1 (h2.imp id (hs _)), q⟩
  exact ⟨B.len, fun y c e => let ⟨v, z⟩ := B.all y c e; ⟨v, kk c v z⟩, B.inj, fun i y e => let ⟨c, h1, h2⟩ := B.has i y e; ⟨c, h1, fun v hv => let ⟨u, r, z⟩ := h2 v hv; ⟨u, r, kk c _ z⟩⟩⟩
theorem caps_cells {X : Cx} {cl : List (Str × Addr)} {fr : List Str} {js : List Nat} (C : Caps X cl fr js) (nd : (cl.map (·.1)).Nodup) (hfn : ∀ y c, cl.lookup y = some c → X.fn y = true) : ∀ c ∈ cl.map (·.2), ∃ x, X.env.cells.lookup x = some c ∧ X.fn x = true := fun c hc => by
  obtain ⟨⟨y, c'⟩, hm, rfl⟩ := List.mem_map.mp hc
  have hl : cl.lookup y = some c' := by
    clear C hfn
    induction cl with
    | nil => cases hm
    | cons a r ih =>
      obtain ⟨z, d⟩ := a
      rw [List.map_cons, List.nodup_cons] at nd
      rcases List.mem_cons.mp hm with h | h
      · cases h; exact List.lookup_cons_self ..
      · have hne : (y == z) = false := by
          refine beq_eq_false_iff_ne.mpr fun e => nd.1 ?_
          rw [← e]; exact List.mem_map_of_mem (f := (·.1)) h
        rw [List.lookup_cons, hne]
        exact ih nd.2 h (List.mem_map_of_mem (f := (·.2)) h)
  exact ⟨y, C.sub y c' hl, hfn y c' hl⟩
def tUp2 (S : List (Option V) → List (Option V) → Sp → Prop) (js ks : List Nat) (t : TA) : TE := fun σ H Q => t σ H fun vs H1 => ∃ sp, S (js.map (slotAt σ)) (ks.map (slotAt σ)) sp ∧ sp vs H1 Q C8.E0
theorem pe_cUp2 {X : Cx} {k j : Nat} {g : Addr} {x : Str} {p pos : Pos} {e : Expr} {es : List Expr} {t : TA} {cl dl : List (Str × Addr)} {fr gr : List Str} {js ks : List Nat} {S : List (Option V) → List (Option V) → Sp → Prop} (named : X.mg x = some (.ref g)) (kept : PySem.W.keepIn X.K (.ref g) = true)
    (cp : X.Ok → Caps X cl fr js) (hfn : ∀ y c, cl.lookup y = some c → X.fn y = true) (dp : X.Ok → Caps X dl gr ks) (hfn2 : ∀ y c, dl.lookup y = some c → X.fn y = true)
    (hS : ∀ ws us sp (base' : Heap), S ws us sp → X.K.In base' → base'.Ns mainGlobals X.mg → BCells cl fr ws base' → BCells dl gr us base' → Cal X.prog X.w X.K X.mg base' k x sp []) (room : Room j X.A) (hk : k ≤ j) (hg : Gl X x) (ha : PA X (e :: es) t) (nd : (cl.map (·.1)).Nodup) (nd2 : (dl.map (·.1)).Nodup) (hdb : (x == ("__debug__" : Str)) = false := by decide)
    (he : starEach (e :: es) X.env = (false, eval e X.env) :: starEach es X.env := by rfl) (hpl : (backTo pos (starEach es X.env)).any (·.1) = false := by rfl) : PE X (.Call (.Name x p) (e :: es) [] pos) (tUp2 S js ks t) := by
  constructor
  intro pins s σ H Q I want
  refine wpAny_Call_Name_kw (ld_glob I hg named ?_ hdb)
  refine PySem.W.callWith_K (h₀ := X.base) I.ok.mod.kin kept (thn (ha.run pos pins s σ H _ I want) ?_) he hpl
  rintro us s1 ⟨vs, H1, I1, rel, sp, s0, q⟩
  refine ⟨I1.kIn, ?_⟩
  have C := cp I1.ok
  have D := dp I1.ok
  have E1 := env_up I1 (cs := cl.map (·.2) ++ dl.map (·.2)) fun c hc => by
    rcases List.mem_append.mp hc with h | h
    · exact caps_cells C nd hfn c h
    · exact caps_cells D nd2 hfn2 c h
  obtain ⟨f, fd, ps, ds, F, named', _, bd, dv⟩ := (hS _ _ sp _ s0 E1.mod.kin E1.mod.glob ((cells_up I1 C).mono fun _ h => List.mem_append_left _ h) ((cells_up I1 D).mono fun _ h => List.mem_append_right _ h)).ex
  rw [named] at named'
  cases named'
  cases dv
  have count : (us ++ []).length = ps.length := by rw [List.append_nil, ← rel.length]; exact F.len _ _ _ _ q
  have bs := bd s1 us I1.kIn count
  rw [List.append_nil] at bs
  refine wpAny_call (codeAny_mono (F.run X.A X.stack s1 H1 ⟨us, []⟩ us vs Q C8.E0 (room.mono hk) E1 bs rel q) fun r t' got => ?_)
  match r, got with
  | .ok (.ret u), got => exact I1.after got
end LX
set_option maxHeartbeats 4000000
namespace Toy
open PySem L2 C8 SX LX
section
variable {P : Program} {w : World} {K : PySem.W.Frag} {mg : Str → Option Value} {base : Heap}
theorem extN_same {H H' : Hp} (s : Same H H') : LamX.ExtN H H' := fun b o h _ => s b o h
theorem RdrAt.ext {C : Addr} {H H' : Hp} {a : Addr} {sg : List Nat} {ms : List (List Nat)} {f : List Nat} {tg : List Nat → Nat → List Nat} {dx m st nu le : Addr} {sa la : List Nat → Addr} {t : List (Str × V)} (h : RdrAt C H a sg ms f tg dx m st nu le sa la t) (s : LamX.ExtN H H') : RdrAt C H' a sg ms f tg dx m st nu le sa la t :=
  ⟨s _ _ h.ha (by intro _ z; cases z), s _ _ h.hm (by intro _ z; cases z), s _ _ h.hst (by intro _ z; cases z), fun x hx => s _ _ (h.hsa x hx) (by intro _ z; cases z), s _ _ h.hnu (by intro _ z; cases z), s _ _ h.hle (by intro _ z; cases z), fun x hx => s _ _ (h.hla x hx) (by intro _ z; cases z)⟩
theorem Rdr.ext {C : Addr} {H H' : Hp} {a : Addr} {sg : List Nat} {ms : List (List Nat)} {f : List Nat} {tg : List Nat → Nat → List Nat} (r : Rdr C H a sg ms f tg) (s : LamX.ExtN H H') : Rdr C H' a sg ms f tg :=
  let ⟨dx, m, st, nu, le, sa, la, co, ca, h, hc⟩ := r; ⟨dx, m, st, nu, le, sa, la, co, ca, h.ext s, ⟨s _ _ hc.hco (by intro _ z; cases z), fun c hx => s _ _ (hc.hca c hx) (by intro _ z; cases z)⟩⟩
def ldT (sg : List Nat) (ms : List (List Nat)) (tg : List Nat → Nat → List Nat) (t i : Nat) : Nat := lcT ms tg t (sg.getD i 0)
theorem ldT_lt {sg : List Nat} {ms : List (List Nat)} {f : List Nat} {tg : List Nat → Nat → List Nat} (g : Good sg ms f tg) : ∀ t i, t < ms.length → i < sg.length → ldT sg ms tg t i < ms.length := fun t i ht hi => by
  unfold ldT
  rw [List.getD_eq_getElem?_getD, List.getElem?_eq_getElem hi]
  exact closed_of g t _ ht (List.getElem_mem hi)
abbrev s_lrfrom : Stmt := top 45
abbrev n_lrfrom : List Str := ["reader", "begin", "goods", "table", "lead", "is_good"]
theorem sc_lrfrom : FnScope n_lrfrom ["reader", "begin", "goods"] (fnScope s_lrfrom) := fnScope_by (by decide +kernel)
abbrev s_lrlead : Stmt := (fnBody s_lrfrom).getD 1 (.Pass ⟨0, 0, 0, 0⟩)
abbrev n_lrlead : List Str := ["number", "at", "table"]
abbrev fr_lrlead : List Str := ["table"]
theorem sc_lrlead : NdefX.NScope n_lrlead ["number", "at"] fr_lrlead (fnScope s_lrlead) := NdefX.nscope_by (by decide +kernel)
theorem nd_lrlead : NdefX.ndefB (fnScope s_lrfrom) (fnScope s_lrlead) fr_lrlead = true := by decide +kernel
abbrev s_lrgood : Stmt := (fnBody s_lrfrom).getD 2 (.Pass ⟨0, 0, 0, 0⟩)
abbrev n_lrgood : List Str := ["number", "goods"]
abbrev fr_lrgood : List Str := ["goods"]
theorem sc_lrgood : NdefX.NScope n_lrgood ["number"] fr_lrgood (fnScope s_lrgood) := NdefX.nscope_by (by decide +kernel)
theorem nd_lrgood : NdefX.ndefB (fnScope s_lrfrom) (fnScope s_lrgood) fr_lrgood = true := by decide +kernel
def nspLead (sg : List Nat) (ms : List (List Nat)) (tg : List Nat → Nat → List Nat) : List (Option V) → Sp := fun ws vs H Q _ => ∃ (pt : Addr) (ra : List Nat → Addr) (t i : Nat), ws = [some (.ref pt)] ∧ vs = [.int (t : Nat), .int (i : Nat)] ∧ TabL sg ms tg pt ra H ∧ t < ms.length ∧ i < sg.length ∧
  ∀ (H' : Hp), Same H H' → Q (.int (ldT sg ms tg t i : Nat)) H'
theorem nok_lrlead {sg : List Nat} {ms : List (List Nat)} {tg : List Nat → Nat → List Nat} (T : BT mg) {g c' : Addr} {cl : List (Str × Addr)} : NdefX.NOk P w K mg base C8.CX0 1 g (NdefX.NF.of s_lrlead "lead" "_least_row_from.<locals>.lead" cl c') ["number", "at"] fr_lrlead (nspLead sg ms tg) := by
  refine NdefX.nok_of sc_lrlead (fun _ _ _ us hl => match us, hl with | [_, _], _ => rfl) (fun ws vs H Q E h => ?_) (fun A outer s H vs ws Q E hr hf hc hl h => ?_)
  · obtain ⟨pt, ra, t, i, _, rfl, _⟩ := h; rfl
  · obtain ⟨pt, ra, t, i, rfl, rfl, h1, ht, hi, k⟩ := h
    refine ⟨_, (pss_one (ps_ret (pe_ix (ixl K) (pe_ix (ixl K) (pv 2) (pv 0) (fun _ _ => rfl)) (pv 1) (fun _ _ => rfl)))
      ), ?_⟩
    have hx : ms[t]? = some ms[t] := List.getElem?_eq_getElem ht
    have hrow := h1.2 _ (List.getElem_mem ht)
    rw [tabI_at hx] at hrow
    have hc : sg[i]? = some (sg.getD i 0) := by rw [List.getD_eq_getElem?_getD, List.getElem?_eq_getElem hi]; rfl
    refine ⟨_, rfl, _, rfl, pt, _, _, _, rfl, rfl, SqL.of h1.1, atI_nat (by rw [List.getElem?_map, hx]; rfl), ?_⟩
    refine ⟨_, rfl, ra ms[t], _, _, _, rfl, rfl, SqL.of hrow, atI_nat (by rw [List.getElem?_map, hc]; rfl), ?_⟩
    exact k H (Same.refl H)
theorem flat_ints (gs : List Nat) : (gs.map fun k => V.int (k : Nat)).all flatV = true := by
  rw [List.all_map]; exact List.all_eq_true.mpr fun _ _ => rfl
theorem inV_ints {t : Nat} {gs : List Nat} : inV (.int (t : Nat)) (gs.map fun k => V.int (k : Nat)) = decide (t ∈ gs) := by
  unfold inV
  rw [Bool.eq_iff_iff, List.any_eq_true, decide_eq_true_eq]
  constructor
  · rintro ⟨y, hy, e⟩
    obtain ⟨k, hk, rfl⟩ := List.mem_map.mp hy
    have : k = t := by
      have e : (k : Int) = (t : Int) := by simpa [eqV] using e
      omega
    rw [← this]; exact hk
  · intro h
    exact ⟨_, List.mem_map.mpr ⟨t, h, rfl⟩, by simp [eqV]⟩
def nspGood (gs : List Nat) : List (Option V) → Sp := fun ws vs H Q _ => ∃ (pg : Addr) (t : Nat), ws = [some (.ref pg)] ∧ vs = [.int (t : Nat)] ∧ H pg = some (.lst (gs.map fun k => V.int (k : Nat))) ∧
  ∀ (H' : Hp), Same H H' → Q (.bl (decide (t ∈ gs))) H'
theorem nok_lrgood {gs : List Nat} (T : BT mg) {g c' : Addr} {cl : List (Str × Addr)} : NdefX.NOk P w K mg base C8.CX0 1 g (NdefX.NF.of s_lrgood "is_good" "_least_row_from.<locals>.is_good" cl c') ["number"] fr_lrgood (nspGood gs) := by
  refine NdefX.nok_of sc_lrgood (fun _ _ _ us hl => match us, hl with | [_], _ => rfl) (fun ws vs H Q E h => ?_) (fun A outer s H vs ws Q E hr hf hc hl h => ?_)
  · obtain ⟨pg, t, _, rfl, _⟩ := h; rfl
  · obtain ⟨pg, t, rfl, rfl, h1, k⟩ := h
    refine ⟨_, (pss_one (ps_ret (pe_cmpR (inK K) (pv 0) (pv 1) rfl))
      ), ?_⟩
    refine ⟨_, rfl, _, rfl, pg, _, rfl, .inl (SqL.of h1), rfl, flat_ints gs, ?_⟩
    have e : (if false then !inV (.int (t : Nat)) (gs.map fun k => V.int (k : Nat)) else inV (.int (t : Nat)) (gs.map fun k => V.int (k : Nat))) = decide (t ∈ gs) := inV_ints
    rw [e]
    exact k H (Same.refl H)
def trL (cl : List (Str × Addr)) (gl c' : Addr) (sg : List Nat) (ms : List (List Nat)) (tg : List Nat → Nat → List Nat) (pt : Addr) (ra : List Nat → Addr) (H : Hp) : Prop :=
  H gl = some (NdefX.FnO gl (NdefX.NF.of s_lrlead "lead" "_least_row_from.<locals>.lead" cl c')) ∧ H c' = some (LamX.CodeO c' "_least_row_from.<locals>.lead") ∧ TabL sg ms tg pt ra H
theorem trL_same {cl : List (Str × Addr)} {gl c' : Addr} {sg : List Nat} {ms : List (List Nat)} {tg : List Nat → Nat → List Nat} {pt : Addr} {ra : List Nat → Addr} {H H' : Hp} (s : Same H H') (h : trL cl gl c' sg ms tg pt ra H) : trL cl gl c' sg ms tg pt ra H' := ⟨s _ _ h.1, s _ _ h.2.1, h.2.2.same s⟩
def trG (cl : List (Str × Addr)) (gl c' : Addr) (gs : List Nat) (pg : Addr) (H : Hp) : Prop :=
  H gl = some (NdefX.FnO gl (NdefX.NF.of s_lrgood "is_good" "_least_row_from.<locals>.is_good" cl c')) ∧ H c' = some (LamX.CodeO c' "_least_row_from.<locals>.is_good") ∧ H pg = some (.lst (gs.map fun k => V.int (k : Nat)))
theorem trG_same {cl : List (Str × Addr)} {gl c' : Addr} {gs : List Nat} {pg : Addr} {H H' : Hp} (s : Same H H') (h : trG cl gl c' gs pg H) : trG cl gl c' gs pg H' := ⟨s _ _ h.1, s _ _ h.2.1, s _ _ h.2.2⟩
def SxN (cl dl : List (Str × Addr)) (ws us : List (Option V)) (sp : Sp) : Prop := ∃ (sg : List Nat) (ms : List (List Nat)) (f : List Nat) (tg : List Nat → Nat → List Nat) (gl c1 gi c2 pt pg : Addr) (ra : List Nat → Addr) (gs : List Nat), Good sg ms f tg ∧ ws = [some (.ref pt)] ∧ us = [some (.ref pg)] ∧
  sp = spLeastN ms.length gl gi (trL cl gl c1 sg ms tg pt ra) (trG dl gi c2 gs pg) (ldT sg ms tg) (fun t => decide (t ∈ gs)) sg
theorem up_leastN (T : BT mg) {gu gw : Addr} {fu fw : FuncData} (F_until : Def K mg "_walked_until" s_until gu fu) (b_until : Binds K fu ["signs", "begin", "lead", "is_last"] [])
    (F_least : Def K mg "least_way" s_least gw fw) (b_least : Binds K fw ["signs", "begin", "lead", "is_good"] []) (cl dl : List (Str × Addr)) (ws us : List (Option V)) (sp : Sp) (base' : Heap) (h : SxN cl dl ws us sp) (_ : K.In base') (_ : base'.Ns mainGlobals mg) (B : BCells cl fr_lrlead ws base') (BD : BCells dl fr_lrgood us base') : Cal P w K mg base' 3 "least_way" sp [] := by
  obtain ⟨sg, ms, f, tg, gl, c1, gi, c2, pt, pg, ra, gs, hgd, rfl, rfl, rfl⟩ := h
  have hle := ldT_lt hgd
  have cg : CV P w K mg base' 1 gi (trG dl gi c2 gs pg) (spI ms.length fun t => decide (t ∈ gs)) := .inr ⟨_, _, _, _, _, nok_lrgood (gs := gs) T (c' := c2) (cl := dl), fun vs H Q htr q => by
    obtain ⟨t, rfl, ht, k⟩ := q
    exact ⟨pg, t, rfl, rfl, htr.2.2, k⟩, BD, fun H htr => ⟨htr.1, htr.2.1⟩⟩
  have ca : CV P w K mg base' 1 gl (trL cl gl c1 sg ms tg pt ra) (spL ms.length sg.length (ldT sg ms tg)) := .inr ⟨_, _, _, _, _, nok_lrlead (sg := sg) (ms := ms) (tg := tg) T (c' := c1) (cl := cl), fun vs H Q htr q => by
    obtain ⟨t, i, rfl, ht, hi, k⟩ := q
    exact ⟨pt, ra, t, i, rfl, rfl, htr.2.2, ht, hi, k⟩, B, fun H htr => ⟨htr.1, htr.2.1⟩⟩
  exact ok_leastN T (hgd.hsg.1.imp fun h => Nat.ne_of_lt h) hle (CV.mono cg (by decide)) (fun _ _ s h => trG_same s h) (ok_until (by have := hgd.h8; omega) hgd.hsg.2.2.1 T ca cg (fun _ _ s h => trL_same s h) (fun _ _ s h => trG_same s h) hle F_until b_until) F_least b_least
def nmLr : Nat → Nat → Str := fun l _ => if l = 203 then "_least_row_from.<locals>.lead" else "_least_row_from.<locals>.is_good"
def spLrFrom (C : Addr) (TT : List NdefX.NTab) : Sp := fun vs H Q _ => ∃ (a pg : Addr) (sg : List Nat) (ms : List (List Nat)) (f : List Nat) (tg : List Nat → Nat → List Nat) (b : Nat) (gs : List Nat), vs = [.ref a, .int b, .ref pg] ∧ Rdr C H a sg ms f tg ∧ Good sg ms f tg ∧ b < ms.length ∧ H pg = some (.lst (gs.map fun k => V.int (k : Nat))) ∧ NdefX.TabsN TT H ∧
  ∀ (H' : Hp), LamX.ExtN H H' → NdefX.TabsN TT H' → Q (optT (foundN (fun t => decide (t ∈ gs)) (walkR (ldT sg ms tg) (fun t => decide (t ∈ gs)) sg ms.length b))) H'
theorem ok_lrfrom {C : Addr} (T : BT mg) (CH : CR K C) {TT : List NdefX.NTab} {nm : Nat → Nat → Str} {cc PP : Addr} (TB : LamX.TabB base mg cc PP) (hm : (PP, nm) ∈ TT) (hnm : nm = nmLr) (hu : ∀ p ∈ TT, p.1 = PP → p.2 = nm)
    (c_table : Cal P w K mg base 2 "table_of" (spTable C) [])
    {gw : Addr} {fw : FuncData} (F_least : Def K mg "least_way" s_least gw fw) (up_least : ∀ (cl dl : List (Str × Addr)) (ws us : List (Option V)) (sp : Sp) (base' : Heap), SxN cl dl ws us sp → K.In base' → base'.Ns mainGlobals mg → BCells cl fr_lrlead ws base' → BCells dl fr_lrgood us base' → Cal P w K mg base' 3 "least_way" sp [])
    {f : Addr} {fd : FuncData} (F : Def K mg "_least_row_from" s_lrfrom f fd) (hc : fd.code = .ref cc) (b : Binds K fd ["reader", "begin", "goods"] []) : Cal P w K mg base 4 "_least_row_from" (spLrFrom C TT) [] := by
  subst hnm
  refine calC F hc b .nil sc_lrfrom (fun vs H Q E h => ?_) (fun A outer s H vs Q E hr h => ?_)
  · obtain ⟨a, pg, _, _, _, _, _, _, rfl, _⟩ := h; rfl
  · obtain ⟨a, pg, sg, ms, f, tg, b0, gs, rfl, ha, hgd, hb, hpg, hT, k⟩ := h
    refine ⟨_, (pss_cons (ps_set (i := 3) sc_lrfrom.nd rfl (.inr rfl) (pe_c c_table hr (by first | decide | omega) (by rfl) (pa_cons (pv 0) pa_nil)))
      (pss_cons (NdefX.ps_ndefS (st := s_lrlead) (i := 4) rfl TB rfl hm rfl hu (NdefX.ndef_free nd_lrlead) rfl rfl rfl sc_lrfrom.nd rfl (.inl rfl) (.inl rfl))
      (pss_cons (NdefX.ps_ndefS (st := s_lrgood) (i := 5) rfl TB rfl hm rfl hu (NdefX.ndef_free nd_lrgood) rfl rfl rfl sc_lrfrom.nd rfl (.inl rfl) (.inl rfl))
      (pss_one (ps_ret (pe_cUp2 (js := [3]) (ks := [2]) F_least.mgf F_least.kp (fun ok => NdefX.Caps.made (scope := fnScope s_lrlead) ok (NdefX.ndef_free nd_lrlead) (NdefX.ndef_fr nd_lrlead) rfl) (fun _ _ _ => rfl) (fun ok => NdefX.Caps.made (scope := fnScope s_lrgood) ok (NdefX.ndef_free nd_lrgood) (NdefX.ndef_fr nd_lrgood) rfl) (fun _ _ _ => rfl) (up_least _ _) hr (Nat.le_refl _) (by rfl) (pa_cons (fldK K (pv 0) rfl) (pa_cons (pv 1) (pa_cons (pv 4) (pa_cons (pv 5) pa_nil)))) (by first | decide | exact (by decide : (["table"] : List Str).Nodup) | exact (by decide : (["table"] : List Str).Nodup)) (by first | decide | exact (by decide : (["goods"] : List Str).Nodup) | exact (by decide : (["goods"] : List Str).Nodup))))
      )))), ?_⟩
    refine ⟨_, rfl, a, sg, ms, f, tg, rfl, ha.to0, hgd, fun pt ra H1 s1 n1 h1 hra => ?_⟩
    refine ⟨hT.ext s1, fun gl c1 H2 e2 hT2 n2 hg1 hc1 => ?_⟩
    refine ⟨hT2, fun gi c2 H3 e3 hT3 n3 hg2 hc2 => ?_⟩
    have e03 : LamX.ExtN H H3 := ((extN_same s1).trans e2).trans e3
    have ha3 := ha.ext e03
    obtain ⟨dx, m, st, nu, le, sa, la, co, ca, r3, hcol⟩ := id ha3
    refine ⟨_, rfl, a, C, dx, _, _, rfl, r3.ha, CH.cl, CH.nS, rl_signs, ?_⟩
    refine ⟨_, rfl, _, rfl, _, rfl, ?_⟩
    have e13 : LamX.ExtN H1 H3 := e2.trans e3
    have ht3 : TabL sg ms tg pt ra H3 := ⟨e13 _ _ h1 (by intro _ z; cases z), fun x hx => e13 _ _ (hra x hx) (by intro _ z; cases z)⟩
    refine ⟨_, ⟨sg, ms, f, tg, gl, c1, gi, c2, pt, pg, ra, gs, hgd, rfl, rfl, rfl⟩, b0, rfl, hb, ⟨e3 _ _ hg1 (by intro _ z; cases z), e3 _ _ hc1 (by intro _ z; cases z), ht3⟩, ⟨hg2, hc2, e03 _ _ hpg (by intro _ z; cases z)⟩, fun H4 s4 => ?_⟩
    exact k _ (e03.trans (extN_same s4)) (hT3.ext s4)
end
end Toy
set_option maxHeartbeats 4000000
namespace Toy
open PySem L2 C8 SX LX
theorem run_ld {sg : List Nat} {ms : List (List Nat)} {tg : List Nat → Nat → List Nat} : ∀ {v : List Nat} {t : Nat}, Ov sg v → UW.run (ldT sg ms tg) t (ixs sg v) = v.foldl (lcT ms tg) t
  | [], _, _ => rfl
  | c :: v, t, ho => by
    have hc := ho c List.mem_cons_self
    have e : ldT sg ms tg t (sg.idxOf c) = lcT ms tg t c := by
      unfold ldT
      have h1 := List.idxOf_lt_length_iff.mpr hc
      rw [List.getD_eq_getElem?_getD, List.getElem?_eq_getElem h1, List.getElem_idxOf]; rfl
    have ih := run_ld (sg := sg) (ms := ms) (tg := tg) (v := v) (t := lcT ms tg t c) fun d hd => ho d (List.mem_cons_of_mem _ hd)
    unfold UW.run ixs at ih ⊢
    rw [List.map_cons, List.foldl_cons, List.foldl_cons, e]
    exact ih
theorem good_fl {ms ls : List (List Nat)} (hnd : ms.Nodup) (hls : ∀ l ∈ ls, l ∈ ms) {t : Nat} (ht : t < ms.length) : decide (t ∈ ls.map ms.idxOf) = flO ms ls t := by
  unfold flO
  have hx : ms[t]? = some ms[t] := List.getElem?_eq_getElem ht
  rw [getD_of hx, Bool.eq_iff_iff, decide_eq_true_eq, decide_eq_true_eq]
  constructor
  · intro h
    obtain ⟨l, hl, e⟩ := List.mem_map.mp h
    have : ms[t] = l := by
      have h1 := List.idxOf_lt_length_of_mem (hls l hl)
      have h2 : ms[ms.idxOf l]? = some l := by rw [List.getElem?_eq_getElem h1, List.getElem_idxOf]
      rw [e, hx] at h2
      exact Option.some.inj h2
    rw [this]; exact hl
  · intro h
    exact List.mem_map.mpr ⟨ms[t], h, hnd.idxOf_getElem t ht⟩
theorem found_head {sg : List Nat} {ms ls : List (List Nat)} {f : List Nat} {tg : List Nat → Nat → List Nat} (g : Good sg ms f tg) (h4 : ms.length ≤ 4) (hls : ∀ l ∈ ls, l ∈ ms) {b : Nat} (hb : b < ms.length) :
    foundN (fun t => decide (t ∈ ls.map ms.idxOf)) (walkR (ldT sg ms tg) (fun t => decide (t ∈ ls.map ms.idxOf)) sg ms.length b) = (allR (flO ms ls) (lcT ms tg) sg b 6).head? := by
  have nd : sg.Nodup := g.hsg.1.imp fun h => Nat.ne_of_lt h
  have hle := ldT_lt g
  have hE := walkR_ends (isl := fun t => decide (t ∈ ls.map ms.idxOf)) nd hle hb
  have hcl := closed_of g
  have hrun : ∀ {v : List Nat}, Ov sg v → decide (UW.run (ldT sg ms tg) b (ixs sg v) ∈ ls.map ms.idxOf) = flO ms ls (v.foldl (lcT ms tg) b) := fun {v} ho => by
    rw [run_ld ho]
    exact good_fl g.hnd hls (fold_lt hcl ho hb)
  rw [foundN_last (ends_ne hE), least_first nd hE 5 (fun h w hw => ?_), all_level, List.head?_filter]
  · have key : ∀ l : List (List Nat), (∀ v ∈ l, Ov sg v) → (l.find? fun v => decide (UW.run (ldT sg ms tg) b (ixs sg v) ∈ ls.map ms.idxOf)) = l.find? fun v => flO ms ls (v.foldl (lcT ms tg) b) := by
      intro l
      induction l with
      | nil => intro _; rfl
      | cons v l ih =>
        intro ho
        rw [List.find?_cons, List.find?_cons, hrun (ho v List.mem_cons_self), ih fun u hu => ho u (List.mem_cons_of_mem _ hu)]
    exact key _ fun v hv => (upto_row hv).2
  · obtain ⟨v, hv, rfl⟩ := ixs_of nd hw
    have e := hrun hv
    cases hf : flO ms ls (v.foldl (lcT ms tg) b) with
    | false => rw [hf] at e; exact e
    | true =>
      obtain ⟨M, hM, _, hp⟩ := pump_small hcl hb (cnt_pos.mpr ⟨v, rfl, hv, hf⟩)
      obtain ⟨u, h1, h2, h3⟩ := cnt_pos.mp hp
      have := h (ixs sg u) (rw_ixs.mpr h2) (by rw [ixs_len]; omega)
      have e2 := hrun h2
      rw [h3] at e2
      have e3 : decide (UW.run (ldT sg ms tg) b (ixs sg u) ∈ ls.map ms.idxOf) = false := this
      rw [e2] at e3
      cases e3
section
variable {P : Program} {w : World} {K : PySem.W.Frag} {mg : Str → Option Value} {base : Heap}
abbrev s_nums : Stmt := top 44
abbrev n_nums : List Str := ["reader", "lot", "mark"]
theorem sc_nums : FnScope n_nums ["reader", "lot"] (fnScope s_nums) := fnScope_by (by decide +kernel)
def spNums (K : PySem.W.Frag) (C : Addr) : Sp := fun vs H Q _ => ∃ (a q : Addr) (bb : Bool) (sg : List Nat) (ms : List (List Nat)) (f : List Nat) (tg : List Nat → Nat → List Nat) (ls : List (List Nat)), vs = [.ref a, .ref q] ∧ RL K C H a q bb sg ms f tg ls ∧
  ∀ (D : Addr) (H' : Hp), Same H H' → H' D = some (.lst ((ls.map ms.idxOf).map fun k => V.int (k : Nat))) → Q (.ref D) H'
theorem ok_nums {C : Addr} (T : BT mg) (CH : CR K C) (c_m_num : Met P w K mg base 1 C "number_of" (spMNum C) []) {f : Addr} {fd : FuncData} (F : Def K mg "_numbers_of" s_nums f fd) (b : Binds K fd ["reader", "lot"] []) : Cal P w K mg base 2 "_numbers_of" (spNums K C) [] := by
  refine cal0 F b .nil sc_nums (fun vs H Q E h => ?_) (fun cdv A outer s H vs Q E hr h => ?_)
  · obtain ⟨a, q, _, _, _, _, _, _, rfl, _⟩ := h; rfl
  · obtain ⟨a, q, bb, sg, ms, f, tg, ls, rfl, hrl, k⟩ := h
    refine ⟨_, (pss_one (ps_ret (pe_lc (own := [("mark", 2)]) rfl sc_nums.nd (pi_seq (pv 1)) (blkOk_by (N := n_nums) (sc := fnScope s_nums) (by decide +kernel)) (fun _ _ _ _ _ => (pg_name (i := 2) sc_nums.nd rfl (.inl rfl))) (fun _ _ _ _ _ => pts_nil) (fun _ _ _ _ _ => (pe_mt c_m_num hr (by decide) (pv 0) (pa_cons (pv 2) pa_nil)))))
      ), ?_⟩
    have h60 := hrl.l60
    refine ⟨_, rfl, q, bb, txs ls, rfl, hrl.lot, fun D hD => lc_keep keep_same (walk_seq (K := K) (b := bb) (a := q) (xs := txs ls)) hD (by rw [txs_len]; exact small1000 (by omega)) (fun j y => ∀ l, ls[j]? = some l → y = .int (ms.idxOf l : Nat)) (fun H2 r => hrl.lot.same r) (fun i x H2 H3 R hii r1 hy hR => ?_) (fun ys H2 hly hg r1 hDs => ?_)⟩
    · obtain ⟨rfl, ex⟩ := hy
      obtain ⟨l, hl, rfl⟩ := txs_get ex
      have r2 := hrl.same r1
      obtain ⟨dx, m, st, nu, le, sa, la, co, ca, rr, hcol⟩ := id r2.rd
      refine ⟨rfl, ?_⟩
      refine ⟨_, rfl, a, dx, _, rfl, rr.ha, rfl, _, rfl, ?_⟩
      refine ⟨a, sg, ms, f, tg, l, rfl, r2.rd.to0, r2.gd.hnd, hrl.sub l (List.mem_of_getElem? hl), ?_⟩
      exact hR _ _ (Same.refl _) fun l' e => by rw [hl] at e; obtain rfl := Option.some.inj e; rfl
    · rw [txs_len] at hly
      have ey : ys = (ls.map ms.idxOf).map fun k => V.int (k : Nat) := by rw [List.map_map]; exact list_map hly fun j y l e1 e2 => hg j y e1 l e2
      subst ey
      exact k D H2 r1 hDs
abbrev s_lrow : Stmt := top 39
abbrev n_lrow : List Str := ["reader", "lot"]
theorem sc_lrow : FnScope n_lrow ["reader", "lot"] (fnScope s_lrow) := fnScope_by (by decide +kernel)
def spLRow (K : PySem.W.Frag) (C : Addr) (TT : List NdefX.NTab) : Sp := fun vs H Q _ => ∃ (a q : Addr) (bb : Bool) (sg : List Nat) (ms : List (List Nat)) (f : List Nat) (tg : List Nat → Nat → List Nat) (ls : List (List Nat)), vs = [.ref a, .ref q] ∧ RL K C H a q bb sg ms f tg ls ∧ ms.length ≤ 4 ∧ NdefX.TabsN TT H ∧
  ∀ H', LamX.ExtN H H' → NdefX.TabsN TT H' → Q (optT (allR (flO ms ls) (lcT ms tg) sg (ms.idxOf f) 6).head?) H'
theorem ok_lrow {C CL : Addr} {TT : List NdefX.NTab} (T : BT mg) (CH : CR K C) (c_chlot : CalX P w K mg base 3 "check_lot" (spChLot K C CL)) (c_m_num : Met P w K mg base 1 C "number_of" (spMNum C) []) (c_nums : Cal P w K mg base 2 "_numbers_of" (spNums K C) []) (c_lrfrom : Cal P w K mg base 4 "_least_row_from" (spLrFrom C TT) [])
    {f : Addr} {fd : FuncData} (F : Def K mg "least_row" s_lrow f fd) (b : Binds K fd ["reader", "lot"] []) : Cal P w K mg base 5 "least_row" (spLRow K C TT) [] := by
  refine cal0 F b .nil sc_lrow (fun vs H Q E h => ?_) (fun cdv A outer s H vs Q E hr h => ?_)
  · obtain ⟨a, q, _, _, _, _, _, _, rfl, _⟩ := h; rfl
  · obtain ⟨a, q, bb, sg, ms, f, tg, ls, rfl, hrl, h4, hT, k⟩ := h
    refine ⟨_, (pss_cons (ps_expr (pe_cX c_chlot takes_none5 hr (by first | decide | omega) (by rfl) (pa_cons (pv 0) (pa_cons (pv 1) pa_nil))))
      (pss_one (ps_ret (pe_c c_lrfrom hr (by first | decide | omega) (by rfl) (pa_cons (pv 0) (pa_cons (pe_mt c_m_num hr (by decide) (pv 0) (pa_cons (fldK K (pv 0) rfl) pa_nil)) (pa_cons (pe_c c_nums hr (by first | decide | omega) (by rfl) (pa_cons (pv 0) (pa_cons (pv 1) pa_nil))) pa_nil)))))
      )), ?_⟩
    refine ⟨_, rfl, _, rfl, a, .ref q, sg, ms, f, tg, some (ls.map some), rfl, hrl.rd, lotY_of hrl.lot hrl.l60 hrl.nd, .inl ⟨⟨ls, rfl, hrl.sub, hrl.nd⟩, fun H1 s1 => ?_⟩⟩
    have r1 := hrl.same s1
    obtain ⟨dx, m, st, nu, le, sa, la, co, ca, rr, hcol⟩ := id r1.rd
    refine ⟨_, rfl, _, rfl, a, dx, _, rfl, rr.ha, rfl, _, rfl, a, C, dx, _, _, rfl, rr.ha, CH.cl, CH.nF, rl_first, ?_⟩
    refine ⟨a, sg, ms, f, tg, f, rfl, r1.rd.to0, r1.gd.hnd, r1.gd.hf, ?_⟩
    refine ⟨_, rfl, _, rfl, a, q, bb, sg, ms, f, tg, ls, rfl, r1, fun D H2 s2 hD => ?_⟩
    have r2 := r1.same s2
    refine ⟨a, D, sg, ms, f, tg, ms.idxOf f, ls.map ms.idxOf, rfl, r2.rd, r2.gd, hrl.f, hD, hT.ext (s1.trans s2), fun H3 e3 hT3 => ?_⟩
    rw [found_head r2.gd h4 hrl.sub hrl.f]
    exact k H3 ((extN_same (s1.trans s2)).trans e3) hT3
end
end Toy
set_option maxHeartbeats 4000000
namespace Toy
open PySem L2 C8 SX LX
def dN (ms : List (List Nat)) (g : List Nat → Nat) : List (Key × V) := ms.map fun x => (tk x, V.int (g x : Nat))
theorem dN_get {g : List Nat → Nat} {y : List Nat} : ∀ {ms : List (List Nat)}, ms.Nodup → y ∈ ms → valV (dN ms g) (tk y) = some (.int (g y : Nat))
  | [], _, h => by cases h
  | x :: ms, nd, h => by
    rw [List.nodup_cons] at nd
    unfold dN
    rw [List.map_cons]
    rcases List.mem_cons.mp h with rfl | h
    · exact valV_pos rfl
    · rw [valV_neg fun e => nd.1 (by rw [tk_inj e]; exact h)]
      exact dN_get nd.2 h
theorem dN_new {g : List Nat → Nat} {y : List Nat} {ms : List (List Nat)} (h : y ∉ ms) : putK (dN ms g) (tk y) (.int (g y : Nat)) = dN (ms ++ [y]) g := by
  rw [putK_new _ (valV_none fun p hp e => by
    obtain ⟨x, hx, rfl⟩ := List.mem_map.mp hp
    exact h (by rw [← tk_inj e]; exact hx))]
  unfold dN
  rw [List.map_append]; rfl
theorem lcT_idx {ms : List (List Nat)} {tg : List Nat → Nat → List Nat} {x : List Nat} (hx : x ∈ ms) (c : Nat) : lcT ms tg (ms.idxOf x) c = ms.idxOf (tg x c) := by
  unfold lcT
  have h1 := List.idxOf_lt_length_of_mem hx
  rw [List.getD_eq_getElem?_getD, List.getElem?_eq_getElem h1, List.getElem_idxOf]; rfl
section
variable {P : Program} {w : World} {K : PySem.W.Frag} {mg : Str → Option Value} {base : Heap}
abbrev s_lmany : Stmt := top 57
abbrev n_lmany : List Str := ["told", "lot", "length", "now", "turn", "later", "mark", "sign"]
theorem sc_lmany : FnScope n_lmany ["told", "lot", "length"] (fnScope s_lmany) := fnScope_by (by decide +kernel)
def spLMany (K : PySem.W.Frag) : Sp := fun vs H Q _ => ∃ (a q : Addr) (sg : List Nat) (ms : List (List Nat)) (f : List Nat) (tg : List Nat → Nat → List Nat) (pm pl : Addr) (ad : List Nat → Addr) (ls : List (List Nat)) (n : Nat), vs = [.ref a, .ref q, .int n] ∧ Told H a sg ms f tg pm pl ad ∧ Good sg ms f tg ∧ SqL K H q (txs ls) ∧ n ≤ 70 ∧
  ∀ (H' : Hp), Same H H' → Q (.int (cntW (flO ms ls) (lcT ms tg) sg n (ms.idxOf f) : Nat)) H'
theorem ok_lmany (T : BT mg) {f : Addr} {fd : FuncData} (F : Def K mg "_law_many" s_lmany f fd) (b : Binds K fd ["told", "lot", "length"] []) : Cal P w K mg base 1 "_law_many" (spLMany K) [] := by
  refine cal0 F b .nil sc_lmany (fun vs H Q E h => ?_) (fun cdv A outer s H vs Q E hr h => ?_)
  · obtain ⟨a, q, _, _, _, _, _, _, _, _, _, rfl, _⟩ := h; rfl
  · obtain ⟨a, q, sg, ms, f, tg, pm, pl, ad, ls, n, rfl, t, hgd, hq, hn, k⟩ := h
    refine ⟨_, (pss_cons (ps_set (i := 3) sc_lmany.nd rfl (.inr rfl) (pe_callTy (call_dictP rfl) (by rfl) T.m_dict PyProof.Rows.boot_dict (pa_cons (pe_lc (own := [("mark", 6)]) rfl sc_lmany.nd (pi_list (pe_dget (hu_of hr) (pv 0) pe_str (fun _ _ => rfl))) (blkOk_by (N := n_lmany) (sc := fnScope s_lmany) (by decide +kernel)) (fun _ _ _ _ _ => (pg_name (i := 6) sc_lmany.nd rfl (.inl rfl))) (fun _ _ _ _ _ => pts_nil) (fun _ _ _ _ _ => (pe_tup (pa_cons (pv 6) (pa_cons (pe_callTy call_int1 (by rfl) T.m_int PyProof.Rows.boot_int (pa_cons (pe_cmpR (inK K) (pv 6) (pv 1) rfl) pa_nil)) pa_nil))))) pa_nil)))
      (pss_cons (ps_for PassesOwn.never rfl (pi_range1 (by rfl) T.m_range (pa_cons (pv 2) pa_nil)) (pg_name (i := 4) sc_lmany.nd rfl (.inl rfl)) 
        (pss_cons (ps_set (i := 5) sc_lmany.nd rfl (.inl rfl) pe_dnewK)
        (pss_cons (ps_for PassesOwn.never rfl (pi_list (pe_dget (hu_of hr) (pv 0) pe_str (fun _ _ => rfl))) (pg_name (i := 6) sc_lmany.nd rfl (.inr rfl)) 
          (pss_one (ps_dput (hu_of hr) (pv 5) (pv 6) (pe_callB (sumK K rfl) (by rfl) T.m_sum PyProof.Rows.boot_sum (pa_cons (pe_lc (own := [("sign", 7)]) rfl sc_lmany.nd (pi_str (pe_dget (hu_of hr) (pv 0) pe_str (fun _ _ => rfl))) (blkOk_by (N := n_lmany) (sc := fnScope s_lmany) (by decide +kernel)) (fun _ _ _ _ _ => (pg_name (i := 7) sc_lmany.nd rfl (.inl rfl))) (fun _ _ _ _ _ => pts_nil) (fun _ _ _ _ _ => (pe_dget (hu_of hr) (pv 3) (pe_dget (hu_of hr) (pe_dget (hu_of hr) (pe_dget (hu_of hr) (pv 0) pe_str (fun _ _ => rfl)) (pv 6) (fun _ _ => rfl)) (pv 7) (fun _ _ => rfl)) (fun _ _ => rfl)))) pa_nil)) rfl)
          ))
        (pss_one (ps_set (i := 3) sc_lmany.nd rfl (.inr rfl) (pv 5))
        ))))
      (pss_one (ps_ret (pe_dget (hu_of hr) (pv 3) (pe_dget (hu_of hr) (pv 0) pe_str (fun _ _ => rfl)) (fun _ _ => rfl)))
      ))), ?_⟩
    have h8 := hgd.h8
    have hl3 := hgd.hsg.2.2.1
    have hcl := closed_of hgd
    have hw0 : ∀ x ∈ ms, V.int (if decide (x ∈ ls) = true then 1 else 0) = V.int (cntW (flO ms ls) (lcT ms tg) sg 0 (ms.idxOf x) : Nat) := fun x hx => by
      have e : flO ms ls (ms.idxOf x) = decide (x ∈ ls) := by
        unfold flO
        have h1 := List.idxOf_lt_length_of_mem hx
        rw [List.getD_eq_getElem?_getD, List.getElem?_eq_getElem h1, List.getElem_idxOf]; rfl
      unfold cntW
      rw [e]
      split <;> rfl
    refine ⟨_, rfl, _, _, rfl, t.marks, pm, rfl, ⟨_, SqL.of t.hpm⟩, fun D hD => ?_⟩
    refine lc_keepH keep_same (walk_list (K := K) (a := pm) (xs := txs ms)) hD (by rw [txs_len]; exact small1000 (by omega)) (fun j y H => ∃ u, y = .ref u ∧ ∀ x, ms[j]? = some x → H u = some (.tup [.str (S x), .int (cntW (flO ms ls) (lcT ms tg) sg 0 (ms.idxOf x) : Nat)])) (fun H r => SqL.of (r _ _ t.hpm))
      (fun _ _ _ _ _ r ⟨u, e, h⟩ => ⟨u, e, fun x hx => r _ _ (h x hx)⟩) (fun _ _ _ _ _ _ hDa ⟨u, e, h⟩ => ⟨u, e, fun x hx => by rw [upd_ne (ne_of (h x hx) hDa (by intro h; cases h))]; exact h x hx⟩) (fun i y H2 H3 acc R hi r hDa hy hR => ?_) (fun ys H2 hly hg r hDs => ?_)
    · obtain ⟨rfl, ex⟩ := hy
      obtain ⟨x, hx, rfl⟩ := txs_get ex
      have hxm := List.mem_of_getElem? hx
      refine ⟨rfl, ?_⟩
      refine ⟨_, rfl, _, rfl, _, rfl, q, txs ls, rfl, .inl (r.seq hq), rfl, flat_txs _, ?_⟩
      rw [inV_txs]
      refine .inr ⟨_, rfl, ?_⟩
      have ew : V.int (if (if false = true then !decide (x ∈ ls) else decide (x ∈ ls)) = true then 1 else 0) = _ := hw0 x hxm
      rw [ew]
      refine ⟨by show 2 ≤ sizeLine; decide, fun u hu => ?_⟩
      exact hR _ _ (sm_new hu) ⟨u, rfl, fun x' e => by rw [hx] at e; obtain rfl := Option.some.inj e; exact upd_same⟩
    · rw [txs_len] at hly
      obtain ⟨ga, hga⟩ := fun_of (γ := Addr) hgd.hnd (P := fun j x u => ys[j]? = some (V.ref u) ∧ H2 u = some (.tup [.str (S x), .int (cntW (flO ms ls) (lcT ms tg) sg 0 (ms.idxOf x) : Nat)])) fun j x hj => by
        have hjl : j < ys.length := by rw [hly]; exact (List.getElem?_eq_some_iff.mp hj).1
        obtain ⟨u, e, h⟩ := hg j _ (List.getElem?_eq_getElem hjl)
        exact ⟨u, by rw [List.getElem?_eq_getElem hjl, e], h x hj⟩
      have eys : ys = (ms.map ga).map V.ref := by
        rw [List.map_map]
        exact list_map hly fun j y x e1 e2 => by have := (hga j x e2).1; rw [e1] at this; exact Option.some.inj this
      refine ⟨D, ms.map ga, dN ms fun x => cntW (flO ms ls) (lcT ms tg) sg 0 (ms.idxOf x), rfl, SqL.of (by rw [← eys]; exact hDs), paired_map fun x hx => ?_, fun d0 hd0 => ?_⟩
      · obtain ⟨j, hj⟩ := List.getElem?_of_mem hx
        exact .inl (.inl (hga j x hj).2)
      have emg : ∀ g : List Nat → Nat, mergeK [] (dN ms g) = dN ms g := fun g => merge_nil (nodup_keys (key := fun x => tk x) (fun a b h => tk_inj h) hgd.hnd)
      rw [emg]
      have s0 : Same H (upd H2 d0 (.dK (dN ms fun x => cntW (flO ms ls) (lcT ms tg) sg 0 (ms.idxOf x)))) := r.trans (sm_new hd0)
      have e0 : (upd H2 d0 (.dK (dN ms fun x => cntW (flO ms ls) (lcT ms tg) sg 0 (ms.idxOf x)))) d0 = some (.dK (dN ms fun x => cntW (flO ms ls) (lcT ms tg) sg 0 (ms.idxOf x))) := upd_same
      generalize upd H2 d0 (.dK (dN ms fun x => cntW (flO ms ls) (lcT ms tg) sg 0 (ms.idxOf x))) = H3 at s0 e0 ⊢
      refine ⟨_, rfl, (n : Int), rfl, by omega, by omega, ?_⟩
      refine for_it (walk_range (lo := 0)) (fun i σ H' => ∃ (d : Addr) (s4 s5 s6 s7 : Option V), σ = [some (.ref a), some (.ref q), some (.int n), some (.ref d), s4, s5, s6, s7] ∧ Same H H' ∧ H' d = some (.dK (dN ms fun x => cntW (flO ms ls) (lcT ms tg) sg i (ms.idxOf x))))
        ⟨d0, _, _, _, _, rfl, s0, e0⟩ (fun _ _ _ _ _ => trivial) ?_ ?_
      · rintro i x σ H4 H4' hi ⟨d, s4, s5, s6, s7, rfl, s1, hd⟩ ⟨rfl, rfl⟩
        refine fun d1 hd1 => ?_
        have hdd : d ≠ d1 := fun e => by rw [e, hd1] at hd; cases hd
        have h1 : H d1 = none := s1.free hd1
        have s2 : Same H (upd H4' d1 (.dK [])) := s1.trans (sm_new hd1)
        have t2 := t.same s2
        refine ⟨_, rfl, _, _, rfl, t2.marks, pm, rfl, ⟨_, SqL.of t2.hpm⟩, ?_⟩
        refine for_it (walk_list (K := K) (a := pm) (xs := txs ms)) (fun j σ H' => ∃ (s6 s7 : Option V), σ = [some (.ref a), some (.ref q), some (.int n), some (.ref d), some (.int (0 + (i : Int))), some (.ref d1), s6, s7] ∧ Same H H' ∧ H' d = some (.dK (dN ms fun x => cntW (flO ms ls) (lcT ms tg) sg i (ms.idxOf x))) ∧ H' d1 = some (.dK (dN (ms.take j) fun x => cntW (flO ms ls) (lcT ms tg) sg (i + 1) (ms.idxOf x))))
          ⟨_, _, rfl, s2, by rw [upd_ne hdd]; exact hd, upd_same⟩ (fun _ σ H' _ ⟨_, _, _, s, _, _⟩ => SqL.of (s _ _ t.hpm)) ?_ ?_
        · rintro j x σ H5 H5' hj ⟨s6, s7, rfl, s5, hd5, h15⟩ ⟨rfl, ex⟩
          obtain ⟨x, hx, rfl⟩ := txs_get ex
          have hxm := List.mem_of_getElem? hx
          have t5 := t.same s5
          refine ⟨_, rfl, _, _, rfl, t5.signs, _, rfl, fun D2 hD2 => ?_⟩
          refine lc_keep keep_same walk_str hD2 (by show sg.length < sizeLine; exact small1000 (by omega)) (fun l y => ∀ c, sg[l]? = some c → y = .int (cntW (flO ms ls) (lcT ms tg) sg i (ms.idxOf (tg x c)) : Nat)) (fun _ _ => trivial) (fun l z H6 H7 R2 hl r6 hy hR2 => ?_) (fun zs H6 hlz hgz r6 hDz => ?_)
          · obtain ⟨rfl, c, hc, rfl⟩ := hy
            have hc' : sg[l]? = some c := by simpa [S] using hc
            have hcs := List.mem_of_getElem? hc'
            have t6 := t5.same r6
            have hyy := hgd.htg x hxm c hcs
            refine ⟨rfl, ?_⟩
            refine ⟨_, rfl, ?_⟩
            refine ⟨_, rfl, _, _, rfl, t6.leads, ?_⟩
            refine ⟨_, rfl, _, _, rfl, t6.mark hxm, ?_⟩
            refine ⟨_, rfl, _, _, rfl, t6.at_ hxm hcs, ?_⟩
            refine ⟨d, _, rfl, .inl ⟨_, tk (tg x c), .inl (r6 _ _ hd5), rfl, (dN_get hgd.hnd hyy).symm⟩, ?_⟩
            exact hR2 _ _ (Same.refl _) fun c' e => by rw [hc'] at e; obtain rfl := Option.some.inj e; rfl
          · have hlz2 : zs.length = sg.length := hlz.trans (by simp [S])
            have ez : zs = (sg.map fun c => ((cntW (flO ms ls) (lcT ms tg) sg i (ms.idxOf (tg x c)) : Nat) : Int)).map V.int := by
              rw [List.map_map]
              exact list_map hlz2 fun l y c e1 e2 => hgz l y e1 c e2
            subst ez
            refine ⟨D2, _, rfl, SqL.of hDz, ?_⟩
            rw [show (sg.map fun c => ((cntW (flO ms ls) (lcT ms tg) sg i (ms.idxOf (tg x c)) : Nat) : Int)).sum = ((cntW (flO ms ls) (lcT ms tg) sg (i + 1) (ms.idxOf x) : Nat) : Int) from by
              show _ = (((sg.map fun c => cntW (flO ms ls) (lcT ms tg) sg i (lcT ms tg (ms.idxOf x) c)).sum : Nat) : Int)
              rw [← sum_cast, List.map_map]
              congr 1
              refine List.map_congr_left fun c hc => ?_
              show _ = ((cntW (flO ms ls) (lcT ms tg) sg i (lcT ms tg (ms.idxOf x) c) : Nat) : Int)
              rw [lcT_idx hxm]]
            have h16 := r6 _ _ h15
            refine ⟨_, rfl, _, rfl, d1, _, rfl, DPut.k (k := tk x) h16 (by unfold dN; rw [List.length_map, List.length_take]; exact small1000 (by omega)), ?_⟩
            have hxn : x ∉ ms.take j := fun h => by
              obtain ⟨l, hl⟩ := List.getElem?_of_mem h
              have hlj : l < j := by have := (List.getElem?_eq_some_iff.mp hl).1; rw [List.length_take] at this; omega
              rw [List.getElem?_take_of_lt hlj] at hl
              have a1 := List.getElem?_eq_some_iff.mp hl
              have a2 := List.getElem?_eq_some_iff.mp hx
              have e1 := hgd.hnd.idxOf_getElem l a1.1
              have e2 := hgd.hnd.idxOf_getElem j a2.1
              rw [a1.2] at e1
              rw [a2.2] at e2
              omega
            rw [dN_new hxn, ← take_more hx]
            refine ⟨_, _, rfl, sm_put (s5.trans r6) h1, by rw [upd_ne hdd]; exact r6 _ _ hd5, upd_same⟩
        · rintro σ H5 ⟨s6, s7, rfl, s5, hd5, h15⟩
          rw [txs_len, List.take_length] at h15
          exact ⟨_, rfl, d1, _, _, _, _, rfl, s5, h15⟩
      · rintro σ H4 ⟨d, s4, s5, s6, s7, rfl, s1, hd⟩
        rw [Int.toNat_natCast] at hd
        have t4 := t.same s1
        refine ⟨_, rfl, _, rfl, _, _, rfl, t4.first, d, _, rfl, .inl ⟨_, tk f, .inl hd, rfl, (dN_get hgd.hnd hgd.hf).symm⟩, ?_⟩
        exact k H4 s1
end
end Toy
set_option maxHeartbeats 2000000
namespace LX
open PySem PySem.Spec PyProof.Rows L2 C8 SX
section
variable {X : Cx}
theorem lay_ints : ∀ ns : List Int, PyData.canLayAll0 (ns.map PyData.int) = true ∧ PyData.depthAll (ns.map PyData.int) ≤ 1
  | [] => ⟨rfl, Nat.zero_le _⟩
  | n :: ns => by
    obtain ⟨h1, h2⟩ := lay_ints ns
    refine ⟨?_, ?_⟩
    · show (true && PyData.canLayAll0 (ns.map PyData.int)) = true
      rw [h1]; rfl
    · show max 0 (PyData.depthAll (ns.map PyData.int)) ≤ 1
      omega
theorem dp_ints {K : PySem.W.Frag} {H : Hp} : ∀ ns : List Int, DpAll K H (ns.map V.int) (ns.map PyData.int)
  | [] => .nil
  | n :: ns => .cons (.int n) (dp_ints ns)
def rEqE : R2 := fun x y H Q => ∃ (a b : Addr) (ns : List Int), x = .ref a ∧ y = .ref b ∧ H a = some (.lst (ns.map V.int)) ∧ H b = some (.lst []) ∧ Q (.bl (decide (ns = []))) H
theorem op_eqE {k : Nat} (hr : Room k X.A) : OpR X (compareOp .Eq) rEqE := by
  intro pins s σ H x y v u Q I rx ry h
  obtain ⟨a, b, ns, rfl, rfl, ha, hb, q⟩ := h
  obtain ⟨h1, h2⟩ := lay_ints ns
  refine op_eqD hr.units pins s σ H _ _ v u Q I rx ry ⟨_, _, .lst (SqL.of ha) (dp_ints ns), .lst (SqL.of hb) .nil, ?_, rfl, ?_⟩
  · show (PyData.canLayAll0 _ && decide (PyData.depthAll _ + 1 ≤ 64)) = true
    rw [h1, Bool.true_and, decide_eq_true_eq]; omega
  · cases ns with
    | nil => exact q
    | cons _ _ => exact q
end
end LX
set_option maxHeartbeats 4000000
namespace Toy
open PySem L2 C8 SX LX
section
variable {fl : Nat → Bool} {lc : Nat → Nat → Nat} {sg : List Nat}
def lens (fl : Nat → Bool) (lc : Nat → Nat → Nat) (sg : List Nat) (i n : Nat) : List Nat := (List.range n).filter fun L => decide (0 < cntW fl lc sg L i)
theorem lens_len {i n : Nat} : (lens fl lc sg i n).length ≤ n := by
  unfold lens
  have := List.length_filter_le (fun L => decide (0 < cntW fl lc sg L i)) (List.range n)
  rwa [List.length_range] at this
theorem lens_yes {i n : Nat} (h : 0 < cntW fl lc sg n i) : lens fl lc sg i (n + 1) = lens fl lc sg i n ++ [n] := by
  unfold lens
  rw [List.range_succ, List.filter_append, List.filter_cons_of_pos (by simpa using h)]; rfl
theorem lens_no {i n : Nat} (h : ¬ 0 < cntW fl lc sg n i) : lens fl lc sg i (n + 1) = lens fl lc sg i n := by
  unfold lens
  rw [List.range_succ, List.filter_append, List.filter_cons_of_neg (by simpa using h)]; simp
theorem lens_last {i : Nat} : ∀ n, (lens fl lc sg i n).getLast? = lastW fl lc sg i n
  | 0 => rfl
  | n + 1 => by
    by_cases h : 0 < cntW fl lc sg n i
    · rw [lens_yes h, List.getLast?_append]
      show _ = (if 0 < cntW fl lc sg n i then some n else lastW fl lc sg i n)
      rw [if_pos h]; rfl
    · rw [lens_no h, lens_last n]
      show _ = (if 0 < cntW fl lc sg n i then some n else lastW fl lc sg i n)
      rw [if_neg h]
end
section
variable {P : Program} {w : World} {K : PySem.W.Frag} {mg : Str → Option Value} {base : Heap}
abbrev s_lgreat : Stmt := top 58
abbrev n_lgreat : List Str := ["told", "lot", "some", "length"]
theorem sc_lgreat : FnScope n_lgreat ["told", "lot"] (fnScope s_lgreat) := fnScope_by (by decide +kernel)
def spLGreat (K : PySem.W.Frag) : Sp := fun vs H Q _ => ∃ (a q : Addr) (sg : List Nat) (ms : List (List Nat)) (f : List Nat) (tg : List Nat → Nat → List Nat) (pm pl : Addr) (ad : List Nat → Addr) (ls : List (List Nat)), vs = [.ref a, .ref q] ∧ Told H a sg ms f tg pm pl ad ∧ Good sg ms f tg ∧ SqL K H q (txs ls) ∧
  ∀ (H' : Hp), Same H H' → Q (lngV (lngL (flO ms ls) (lcT ms tg) sg (ms.idxOf f))) H'
theorem ok_lgreat (T : BT mg) (c_lmany : Cal P w K mg base 1 "_law_many" (spLMany K) []) {f : Addr} {fd : FuncData} (F : Def K mg "_law_greatest" s_lgreat f fd) (b : Binds K fd ["told", "lot"] []) : Cal P w K mg base 2 "_law_greatest" (spLGreat K) [] := by
  refine cal0 F b .nil sc_lgreat (fun vs H Q E h => ?_) (fun cdv A outer s H vs Q E hr h => ?_)
  · obtain ⟨a, q, _, _, _, _, _, _, _, _, rfl, _⟩ := h; rfl
  · obtain ⟨a, q, sg, ms, f, tg, pm, pl, ad, ls, rfl, t, hgd, hq, k⟩ := h
    refine ⟨_, (pss_cons (ps_setLc (i := 2) (own := [("length", 3)]) rfl sc_lgreat.nd rfl rfl rfl (pi_range1 (by rfl) T.m_range (pa_cons pe_int pa_nil)) (blkOk_by (N := n_lgreat) (sc := fnScope s_lgreat) (by decide +kernel)) (fun _ _ _ _ _ => (pg_name (i := 3) sc_lgreat.nd rfl (.inl rfl))) (fun _ _ _ _ _ => pts_one (pt_cmpR op_gt (pe_c c_lmany hr (by first | decide | omega) (by rfl) (pa_cons (pv 0) (pa_cons (pv 1) (pa_cons (pv 3) pa_nil)))) pe_int (nomark _))) (fun _ _ _ _ _ => (pv 3)))
      (pss_cons (ps_if (pt_cmpR (op_eqE hr) (pv 2) (pe_lst pa_nil) (nomark _)) 
        (pss_one (ps_ret pe_non)
        )
       pss_nil)
      (pss_one (ps_ret (pe_ifExp (pt_cmpR op_gt (pe_ix (ixl K) (pv 2) (pe_un un_neg pe_int) (fun _ _ => rfl)) pe_int (nomark _)) pe_str (pe_ix (ixl K) (pv 2) (pe_un un_neg pe_int) (fun _ _ => rfl))))
      ))), ?_⟩
    refine ⟨10, rfl, by decide, by decide, fun D hD => ?_⟩
    refine lc_it (walk_range (lo := 0) (n := (10 : Int).toNat)) (fun i H' => Same H H' ∧ H' D = some (.lst ((lens (flO ms ls) (lcT ms tg) sg (ms.idxOf f) i).map fun k => V.int (k : Nat))))
      ⟨sm_new hD, upd_same⟩ (fun _ _ _ _ => trivial) (fun i x H2 H2' hi ⟨s2, e2⟩ hy => ?_) (fun H2 ⟨s2, e2⟩ => ?_)
    · obtain ⟨rfl, hxv⟩ := hy
      have hi10 : i < 10 := hi
      obtain rfl : x = V.int (i : Int) := hxv.trans (congrArg V.int (by omega))
      refine ⟨rfl, ?_⟩
      refine ⟨_, rfl, _, rfl, _, rfl, a, q, sg, ms, f, tg, pm, pl, ad, ls, i, rfl, t.same s2, hgd, s2.seq hq, by omega, fun H3 s3 => ?_⟩
      refine ⟨_, _, rfl, rfl, _, rfl, ?_⟩
      by_cases h : 0 < cntW (flO ms ls) (lcT ms tg) sg i (ms.idxOf f)
      · refine iteB (by rw [decide_eq_true_eq]; omega) ⟨_, rfl, _, s3 _ _ e2, ?_, sm_put (s2.trans s3) hD, ?_⟩
        · rw [List.length_map]
          have := lens_len (fl := flO ms ls) (lc := lcT ms tg) (sg := sg) (i := ms.idxOf f) (n := i)
          exact small1000 (by omega)
        · rw [upd_same, lens_yes h, List.map_append]; rfl
      · refine iteN (by rw [decide_eq_false_iff_not]; omega) ⟨s2.trans s3, ?_⟩
        rw [lens_no h]
        exact s3 _ _ e2
    · have e10 : (10 : Int).toNat = 10 := rfl
      rw [e10] at e2
      have hlast := lens_last (fl := flO ms ls) (lc := lcT ms tg) (sg := sg) (i := ms.idxOf f) 10
      unfold lngL at k
      rw [← hlast] at k
      generalize lens (flO ms ls) (lcT ms tg) sg (ms.idxOf f) 10 = xs at e2 hlast k
      refine ⟨_, rfl, by decide, fun p hp => ?_⟩
      have s3 := s2.trans (sm_new (o := .lst []) hp)
      have hDp : D ≠ p := fun e => by rw [← e, e2] at hp; cases hp
      have e3 : (upd H2 p (.lst [])) D = some (.lst (xs.map fun k => V.int (k : Nat))) := by rw [upd_ne hDp]; exact e2
      have em : (xs.map fun k => V.int (k : Nat)) = (xs.map fun (k : Nat) => (k : Int)).map V.int := by rw [List.map_map]; rfl
      refine ⟨D, p, xs.map fun (k : Nat) => (k : Int), rfl, rfl, by rw [← em]; exact e3, upd_same, ?_⟩
      generalize upd H2 p (.lst []) = H3 at s3 e3 ⊢
      cases xs with
      | nil => exact ⟨_, rfl, iteB (by rfl) (k H3 s3)⟩
      | cons y ys =>
        refine ⟨_, rfl, iteN (by rfl) ?_⟩
        obtain ⟨l, hl⟩ : ∃ l, (y :: ys).getLast? = some l := by
          cases e : (y :: ys).getLast? with
          | none => rw [List.getLast?_eq_none_iff] at e; cases e
          | some l => exact ⟨l, rfl⟩
        rw [hl] at k
        have hat : atI ((y :: ys).map fun k => V.int (k : Nat)) (-1) = some (.int (l : Nat)) := at_last (by rw [List.length_map]; exact Nat.zero_lt_succ _) (by
          rw [List.length_map, List.getElem?_map]
          rw [List.getLast?_eq_getElem?] at hl
          rw [hl]; rfl)
        have ek : lngT 4 (some l) = if 4 ≤ l then .inf else .fin l := rfl
        rw [ek] at k
        refine ⟨_, rfl, _, rfl, D, _, _, _, rfl, rfl, SqL.of e3, hat, _, _, rfl, rfl, _, rfl, ?_⟩
        by_cases h : 4 ≤ l
        · rw [if_pos h] at k
          exact iteB (by rw [decide_eq_true_eq]; omega) (k H3 s3)
        · rw [if_neg h] at k
          refine iteN (by rw [decide_eq_false_iff_not]; omega) ?_
          exact ⟨_, rfl, _, rfl, D, _, _, _, rfl, rfl, SqL.of e3, hat, k H3 s3⟩
abbrev s_missed : Stmt := top 59
abbrev n_missed : List Str := ["made", "lot", "value", "found", "e"]
theorem sc_missed : FnScope n_missed ["made", "lot", "value"] (fnScope s_missed) := fnScope_by (by decide +kernel)
def spMissed (K : PySem.W.Frag) (C CI : Addr) : Sp := fun vs H Q _ => ∃ (a q : Addr) (bb : Bool) (sg : List Nat) (ms : List (List Nat)) (f : List Nat) (tg : List Nat → Nat → List Nat) (ls : List (List Nat)) (v : V) (o : Option (List Nat)), vs = [.ref a, .ref q, v] ∧ RL K C H a q bb sg ms f tg ls ∧ Kv K H v o ∧ (∀ l, o = some l → l.length ≤ 70) ∧ rowO sg o = false ∧
  ∀ H', Same H H' → Q (.bl true) H'
theorem ok_missed {C CI C_RowError : Addr} (T : BT mg) (c_place : CalX P w K mg base 4 "place_of" (spPlace K C CI)) (x_InvalidRow : XN K mg "InvalidRow" CI) (x_RowError : XG mg "RowError" C_RowError) (xIL : XC K CI) (sLL : PySem.W.subIn K (.ref CI) (.ref CI) = some true) (kLR : PySem.W.kitOne K (.ref CI) (.ref C_RowError) = some true)
    {f : Addr} {fd : FuncData} (F : Def K mg "_law_missed" s_missed f fd) (b : Binds K fd ["made", "lot", "value"] []) : Cal P w K mg base 5 "_law_missed" (spMissed K C CI) [] := by
  refine cal0 F b .nil sc_missed (fun vs H Q E h => ?_) (fun cdv A outer s H vs Q E hr h => ?_)
  · obtain ⟨a, q, _, _, _, _, _, _, _, _, rfl, _⟩ := h; rfl
  · obtain ⟨a, q, bb, sg, ms, f, tg, ls, v, o, rfl, hrl, hv, hl, ho, k⟩ := h
    refine ⟨_, (pss_cons (ps_set (i := 3) sc_missed.nd rfl (.inl rfl) pe_bl)
      (pss_cons (ps_try_manyA rfl rfl sc_missed.nd takes_none5 (fun W pn xe tk pso => 
        (pss_one (ps_expr (pe_cX c_place tk hr (by first | decide | omega) (by rfl) (pa_cons (pv 0) (pa_cons (pv 1) (pa_cons (pv 2) pa_nil)))))
        )) (.consA (i := 4) rfl rfl ⟨rfl, by decide, .inl x_InvalidRow.g⟩ (fun a oe cls d pn hz hf => 
        (pss_one (ps_set (i := 3) sc_missed.nd rfl (.inl rfl) (pe_callB (call_isX hz hf) (by rfl) T.m_isinstance PyProof.Rows.boot_isinstance (pa_cons (pv 4) (pa_cons (pe_glob (v := .ref C_RowError) (by rfl) x_RowError.g rfl) pa_nil))))
        )) .nil))
      (pss_one (ps_ret (pv 3))
      ))), ?_⟩
    refine ⟨_, rfl, _, rfl, _, rfl, a, q, bb, sg, ms, f, tg, ls, v, o, rfl, hrl, hv, hl, .inr ⟨ho, fun H1 s1 => ?_⟩⟩
    refine ⟨true, xIL.exm sLL, fun _ e he => ?_, fun h => nomatch h⟩
    refine ⟨_, rfl, CI, _, _, true, rfl, xIL.exc, rfl, fun u hu => hu, kLR, ?_⟩
    exact ⟨.inl rfl, _, rfl, k H1 s1⟩
end
end Toy
set_option maxHeartbeats 2000000
namespace LX
open PySem PySem.Spec PyProof.Rows L2 C8 SX
section
variable {X : Cx}
def tRevLX (K : PySem.W.Frag) (te ts : TE) : TE := fun σ H Q => te σ H fun x H1 => ts σ H1 fun y H2 => ∃ i, y = .int i ∧ (some i = some (-1) ∧ ∃ (a : Addr) (xs : List V), x = .ref a ∧ SqL K H2 a xs ∧ ∀ p, H2 p = none → Q (.ref p) (upd H2 p (.lst xs.reverse)))
theorem pe_revLX {e st : Expr} {te ts : TE} {p3 pos : Pos} (K : PySem.W.Frag) (he : PE X e te) (hs : PE X st ts) (hK : X.K = K := by rfl) : PE X (.Subscript e (.Slice none none (some st) p3) pos) (tRevLX K te ts) := by
  subst hK
  refine ⟨fun pins s σ H Q I h => ?_⟩
  refine Subscript_ (thn (he.run pins s σ H _ I h) fun v s1 ⟨x, H1, I1, r1, q1⟩ => ?_)
  have hst : PO X (some st) (tPart ts) := po_some hs
  refine wpAny_Slice (thn (po_none.run pins s1 σ H1 (fun o H2 => o = none ∧ H2 = H1) I1 ⟨rfl, rfl⟩) fun vl s2 ⟨l, H2, I2, pl, el, e2⟩ => ?_)
  subst el e2
  refine thn (po_none.run pins s2 σ H2 (fun o H3 => o = none ∧ H3 = H2) I2 ⟨rfl, rfl⟩) fun vu s3 ⟨u, H3, I3, pu, eu, e3⟩ => ?_
  subst eu e3
  refine thn (hst.run pins s3 σ H3 (fun o H4 => o = some (-1) ∧ ∃ (a : Addr) (xs : List V), x = .ref a ∧ SqL X.K H4 a xs ∧ ∀ p, H4 p = none → Q (.ref p) (upd H4 p (.lst xs.reverse))) I3 q1) fun vs s4 ⟨o, H4, I4, ps, eo, a, xs, ex, hx, q⟩ => ?_
  subst eo ex
  cases r1
  have I5 : Inv X pins σ H4 { s4 with heap := s4.heap.push { cls := .type "slice", data := .fields #[vl, vu, vs] } } := I4.kept (t' := s4.toks) fun b ob q => Heap.get?_push_of_some _ q
  obtain ⟨its, r, ht, hz⟩ := I5.list hx
  have hlen := r.length
  show wpAny (model X.prog X.w) X.A (subscriptTail e (.Slice none none (some st) p3) (.ref a) (.ref s4.heap.objs.size)) (EP X pins σ Q) X.xe { s4 with heap := s4.heap.push { cls := .type "slice", data := .fields #[vl, vu, vs] } }
  refine tail_any (ops := [.ref a, .ref s4.heap.objs.size]) ht.isList.typeIs (PySem.slot_list_getitem.lookup) ?_ (by with_unfolding_all rfl)
  refine wpAny_getItem_list_slice ht.isList (Heap.IsSliceOf.new _ vl vu vs) pl pu ps (by decide) ?_ (by rw [List.size_toArray]; omega)
  rw [PySem.W.krv_pick]
  refine ⟨.ref _, _, I5.laid (t' := s4.toks) (o := .lst xs.reverse) (fun b ob q => Heap.get?_push_of_some _ q) (Nat.le_refl _) ?_, rfl, q _ (I5.hok.fresh (Nat.le_refl _))⟩
  exact ⟨by rw [List.length_reverse]; exact hz, _, 0, r.reverse, Heap.get?_push_size _ rfl⟩
end
def NL (H H' : Hp) : Prop := ∀ a o, H a = some o → (∀ xs, o ≠ .lst xs) → H' a = some o
theorem NL.refl (H : Hp) : NL H H := fun _ _ e _ => e
theorem NL.trans {H H1 H2 : Hp} (p : NL H H1) (q : NL H1 H2) : NL H H2 := fun a o e n => q a o (p a o e n) n
theorem nl_same {H H' : Hp} (s : Same H H') : NL H H' := fun a o e _ => s a o e
theorem nl_lset {H : Hp} {a : Addr} {xs ys : List V} (h : H a = some (.lst xs)) : NL H (upd H a (.lst ys)) := fun b o e n => by
  rw [upd_ne (fun z => by rw [z, h] at e; exact n xs (Option.some.inj e).symm)]; exact e
end LX
set_option maxHeartbeats 2000000
namespace LX
open PySem PySem.Spec PyProof.Rows L2 C8 SX
section
variable {X : Cx} {k j : Nat} {C : Addr} {sp : Sp}
theorem met_run0 {mth : Str} {pins : List (Addr × Obj)} {σ : L2.St} {H : Hp} {s : Shared} {A : Around} {a : Addr} {Q : Value → Shared → Prop} (c : Met X.prog X.w X.K X.mg X.base k C mth sp []) (hr : Room k A) (hfr : A.frames = X.A.frames) (I : Inv X pins σ H s)
    {R : VK} (hsp : sp [.ref a] H R C8.E0) (hQ : ∀ v z H' s', Inv X pins σ H' s' → RelV z v → R z H' → Q v s') :
    ∃ f, PySem.W.findIn X.K (.ref C) mth = some (some (.ref f)) ∧ PySem.W.isFn X.K (.ref f) = true ∧ wpAny (model X.prog X.w) A (call (.ref f) [.ref a]) Q X.xe s := by
  obtain ⟨f, fd, ps, ds, hc, hm, F, hb, hd⟩ := c.ex
  refine ⟨f, hm.at_, hm.fn, ?_⟩
  have e0 : Env0 X.prog X.w X.K X.mg X.base A X.stack s H := by
    have e := I.env0
    exact ⟨by rw [hfr]; exact e.frames, e.mod, e.bs, e.bsz, e.funs, e.frf, e.hok, e.bare⟩
  have hds : ds = [] := by cases hd; rfl
  subst hds
  have hl := F.len _ _ _ _ hsp
  have r2 : Vals [V.ref a] [Value.ref a] := .cons rfl .nil
  refine wpAny_call (codeAny_mono (F.run A X.stack s H ⟨[.ref a], []⟩ [.ref a] [.ref a] _ C8.E0 hr e0 (by
    have := hb s [.ref a] I.kIn (by simpa using hl)
    simpa using this) r2 hsp) fun r s' hq => ?_)
  cases r with
  | error e => exact C8.pass0 (E := C8.E0) pins σ H s e s' I hq
  | ok fl =>
    cases fl with
    | ret w =>
      obtain ⟨z, H', I', rz, q⟩ := I.after hq
      exact hQ w z H' s' I' rz q
    | next => exact False.elim hq
    | brk => exact False.elim hq
    | cont => exact False.elim hq
theorem call_strI (c : Met X.prog X.w X.K X.mg X.base k C "__str__" sp []) (hr : Room j X.A) (hk : k + 2 ≤ j) : CallR X (.type "str") (fun xs H Q => ∃ a dx fs, xs = [.ref a] ∧ H a = some (.ins C dx fs) ∧ sp [.ref a] H (fun v H' => ∃ z, v = .str z ∧ Q (.str z) H') C8.E0) := by
  intro pins s σ H xs us Q I rel want
  obtain ⟨a, dx, fs, rfl, ha, hsp⟩ := want
  obtain ⟨u, rfl, ru⟩ := vals1 rel
  cases ru
  obtain ⟨mA, J, _⟩ := ins_get I.hok ha
  obtain ⟨od, J, _⟩ := J.look
  have r2 : Room k X.A.in1.in1 := (hr.mono hk).in1.in1
  obtain ⟨f, hs, hf, hw⟩ := met_run0 (A := X.A.in1.in1) (Q := PySem.W.StrBack (EP X pins σ Q)) c r2 rfl I hsp (fun v z H' s' I' rz q => by
    obtain ⟨y, rfl, q⟩ := q
    obtain ⟨t, rfl⟩ := rz
    exact ⟨.str y, H', I', ⟨t, rfl⟩, q⟩)
  exact PySem.W.kso_call r2.units0 I.kIn J hs hf hw
end
end LX
set_option maxHeartbeats 2000000
namespace LX
open PySem PySem.Spec PyProof.Rows L2 C8 SX
section
variable {X : Cx} {j : Nat}
def repO : Option (List Nat) → Str
  | some r => PyData.shown (.str (S r))
  | none => "None"
theorem call_reprO : CallR X (.builtin "repr") (fun xs H Q => ∃ r : Option (List Nat), (xs = [match r with | some r => .str (S r) | none => .non]) ∧ (∀ l, r = some l → l.length ≤ 1000 ∧ ∀ c ∈ l, c < 1114112) ∧ Q (.str (repO r)) H) := by
  intro pins s σ H xs us Q I rel want
  obtain ⟨r, rfl, hl, q⟩ := want
  obtain ⟨u, rfl, ru⟩ := vals1 rel
  cases r with
  | none =>
    obtain rfl : u = Value.none := ru
    exact PySem.P.repr_of_none ⟨.str (repO none), H, I.kept (t' := s.toks + 1) fun _ _ e => e, ⟨_, rfl⟩, q⟩
  | some l =>
    obtain ⟨t, rfl⟩ : ∃ t, u = Value.str (S l) t := ru
    obtain ⟨h1, h2⟩ := hl l rfl
    refine PySem.P.repr_of_str ⟨.str (repO (some l)), H, I.kept (t' := s.toks + 1) fun _ _ e => e, ⟨_, rfl⟩, q⟩ ?_
    exact (Fit.text (k := 0) h2 h1).size (by decide)
end
end LX
set_option maxHeartbeats 4000000
namespace LX
open PySem PySem.Spec PyProof.Rows L2 C8 SX
section
variable {X : Cx}
theorem lexIS (i j : Int) (r t : Str) : Ob.lexAt (fun k => if k = 0 then (i == j) else (r == t)) (fun k => if k = 0 then decide (j ≤ i) else !decide (r.cps.toList < t.cps.toList)) true 0 2 = (if i = j then !decide (r.cps.toList < t.cps.toList) else decide (j ≤ i)) := by
  rw [Ob.lexAt_succ, Ob.lexAt_succ, Ob.lexAt_zero]
  simp only [Nat.zero_add, if_true, Nat.one_ne_zero, if_false]
  by_cases h : i = j
  · subst h
    rw [if_pos (beq_self_eq_true _), if_pos rfl]
    by_cases h2 : r = t
    · subst h2
      rw [if_pos (beq_self_eq_true _), decide_eq_false (List.lt_irrefl _)]; rfl
    · rw [if_neg (by simpa using h2)]
  · rw [if_neg (by simpa using h), if_neg h]
theorem rc_ge_str {A : Around} {s : Shared} {r t : Str} {u v : Tok} : Ob.RcOp .GtE A s (.str r u) (.str t v) (!decide (r.cps.toList < t.cps.toList)) := fun _ _ _ _ h => PySem.P.ge_str h
theorem op_geIS {X : Cx} (hu : X.A.units < cLine) : OpR X (compareOp .GtE) (fun x y H Q => ∃ (a b : Addr) (i j : Int) (r t : Str), x = .ref a ∧ y = .ref b ∧ H a = some (.tup [.int i, .str r]) ∧ H b = some (.tup [.int j, .str t]) ∧ Q (.bl (if i = j then !decide (r.cps.toList < t.cps.toList) else decide (j ≤ i))) H) := by
  intro pins s σ H x y v u Q I rx ry h
  obtain ⟨a, b, i, j, r, t, rfl, rfl, ha, hb, q⟩ := h
  cases rx
  cases ry
  obtain ⟨its, r1, p1, _⟩ := I.tuple (SqT.of (K := X.K) ha)
  obtain ⟨its2, r2, p2, _⟩ := I.tuple (SqT.of (K := X.K) hb)
  have z1 : ∃ t1 t2, its = [Value.int i t1, .str r t2] := by
    cases r1 with
    | cons x1 r1 => cases r1 with
      | cons x2 r1 => cases r1 with
        | nil =>
          obtain ⟨t1, rfl⟩ := x1
          obtain ⟨t2, rfl⟩ := x2
          exact ⟨_, _, rfl⟩
  have z2 : ∃ t1 t2, its2 = [Value.int j t1, .str t t2] := by
    cases r2 with
    | cons x1 r1 => cases r1 with
      | cons x2 r1 => cases r1 with
        | nil =>
          obtain ⟨t1, rfl⟩ := x1
          obtain ⟨t2, rfl⟩ := x2
          exact ⟨_, _, rfl⟩
  obtain ⟨t1, t2, rfl⟩ := z1
  obtain ⟨t3, t4, rfl⟩ := z2
  have e1 : ([Value.int i t1, .str r t2] : List Value).toArray.size = 2 := rfl
  have e2 : ([Value.int j t3, .str t t4] : List Value).toArray.size = 2 := rfl
  have R := Ob.RcOp.tuples_ge (A := X.A) (s := s) (e := fun k => if k = 0 then (i == j) else (r == t)) (r := fun k => if k = 0 then decide (j ≤ i) else !decide (r.cps.toList < t.cps.toList)) p1 p2 hu ?he ?hr
  case he =>
    intro k h1 h2
    rw [e1] at h1
    match k, h1, h2 with
    | 0, _, _ => exact SeqAt.EqAt.int_int _ _ _ _
    | 1, _, _ => exact SeqAt.EqAt.str_str _ _ _ _
    | k + 2, h1, _ => omega
  case hr =>
    intro k h1 h2 _
    rw [e1] at h1
    match k, h1, h2 with
    | 0, _, _ => exact Ob.RcOp.ge_int _ _ _ _
    | 1, _, _ => exact rc_ge_str
    | k + 2, h1, _ => omega
  rw [e1, e2, show min 2 2 = 2 from rfl, show decide (2 ≥ 2) = true from rfl, lexIS] at R
  have R2 : wpAny (model X.prog X.w) X.A (compareOp .GtE (.ref a) (.ref b)) (EP X pins σ Q) X.xe s := R X.prog X.w X.xe (EP X pins σ Q) ⟨.bl _, H, I, rfl, q⟩
  exact R2
end
end LX
set_option maxHeartbeats 2000000
namespace LX
open PySem PySem.Spec PyProof.Rows L2 C8 SX
section
variable {X : Cx}
inductive OkQ : V → Prop
  | non : OkQ .non
  | int {i : Int} (h : i.natAbs.log2 < 1920) : OkQ (.int i)
  | txt {l : List Nat} (h : l.length ≤ 1000) (h2 : ∀ c ∈ l, c < 1114112) : OkQ (.str (S l))
def repQ : V → Str
  | .str s => PyData.shown (.str s)
  | .int i => toString i
  | _ => "None"
theorem call_reprQ : CallR X (.builtin "repr") (fun xs H Q => ∃ v : V, xs = [v] ∧ OkQ v ∧ Q (.str (repQ v)) H) := by
  intro pins s σ H xs us Q I rel want
  obtain ⟨v, rfl, ok, q⟩ := want
  cases ok with
  | non => exact call_reprO pins s σ H _ us Q I rel ⟨none, rfl, fun _ h => (nomatch h), q⟩
  | int h => exact SkE.call_repr_int pins s σ H _ us Q I rel ⟨_, rfl, h, q⟩
  | txt h h2 => exact call_reprO pins s σ H _ us Q I rel ⟨some _, rfl, fun l e => by cases e; exact ⟨h, h2⟩, q⟩
end
end LX
set_option maxHeartbeats 8000000
namespace Toy
open PySem L2 C8 SX LX
theorem Mch.good {sg : List Nat} {ms : List (List Nat)} {f : List Nat} {tg : List Nat → Nat → List Nat} {n : Nat} (m : Mch sg ms f tg n) (hn : n ≤ 7) : Good sg ms f tg :=
  ⟨m.hsg, m.hms.1, m.hms.2.1, by have := m.hms.2.2.1; omega, fun x hx => by
    have h : x ∈ nm8 := m.hms.2.2.2 x hx
    simp only [nm8, List.mem_cons, List.mem_nil_iff, or_false] at h
    rcases h with rfl | rfl | rfl | rfl | rfl | rfl | rfl | rfl <;> decide, m.hf, m.htg⟩
theorem ext_lst {H H' : Hp} {a : Addr} {xs : List V} (s : LamX.ExtN H H') (h : H a = some (.lst xs)) : H' a = some (.lst xs) := s _ _ h (by intro _ z; cases z)
theorem Told.ext {H H' : Hp} {a : Addr} {sg : List Nat} {ms : List (List Nat)} {f : List Nat} {tg : List Nat → Nat → List Nat} {pm pl : Addr} {ad : List Nat → Addr} (t : Told H a sg ms f tg pm pl ad) (s : LamX.ExtN H H') : Told H' a sg ms f tg pm pl ad :=
  ⟨s _ _ t.ha (by intro _ z; cases z), s _ _ t.hpm (by intro _ z; cases z), s _ _ t.hpl (by intro _ z; cases z), fun m h => s _ _ (t.had m h) (by intro _ z; cases z)⟩
theorem rdr_bx {C : Addr} {H H' : Hp} {b a : Addr} {sg : List Nat} {ms : List (List Nat)} {f : List Nat} {tg : List Nat → Nat → List Nat} (hb : BoxAt b H) (r : Rdr C H a sg ms f tg) (s : Bx b H H') : Rdr C H' a sg ms f tg := by
  obtain ⟨dx, m, st, nu, le, sa, la, co, ca, h, hc⟩ := r
  have n : ∀ {x : Addr} {o : HO}, H x = some o → (∀ xs, o ≠ .lst xs) → H' x = some o := fun {x o} e ne => s.1 _ _ (fun z => by
    obtain ⟨o2, e2, p, q, w, rfl⟩ := hb
    rw [z, e2] at e
    exact ne _ (Option.some.inj e).symm) e
  exact ⟨dx, m, st, nu, le, sa, la, co, ca, ⟨n h.ha (by intro _ z; cases z), n h.hm (by intro _ z; cases z), n h.hst (by intro _ z; cases z), fun x hx => n (h.hsa x hx) (by intro _ z; cases z), n h.hnu (by intro _ z; cases z), n h.hle (by intro _ z; cases z), fun x hx => n (h.hla x hx) (by intro _ z; cases z)⟩, ⟨n hc.hco (by intro _ z; cases z), fun c hx => n (hc.hca c hx) (by intro _ z; cases z)⟩⟩
structure Live (TT : List NdefX.NTab) (C : Addr) (H H' : Hp) (b ta : Addr) (sg : List Nat) (ms : List (List Nat)) (f : List Nat) (tg : List Nat → Nat → List Nat) (pm pl : Addr) (ad : List Nat → Addr) (p : Addr) : Prop where
  nb : H b = none
  npm : pm ≠ b
  ext : LamX.ExtN H H'
  tabs : NdefX.TabsN TT H'
  box : BoxAt b H'
  told : Told H' ta sg ms f tg pm pl ad
  rdr : Rdr C H' p sg ms f tg
section
variable {TT : List NdefX.NTab} {C : Addr} {H H' H2 : Hp} {b ta : Addr} {sg : List Nat} {ms : List (List Nat)} {f : List Nat} {tg : List Nat → Nat → List Nat} {pm pl : Addr} {ad : List Nat → Addr} {p : Addr}
theorem box_same (hb : BoxAt b H) (s : Same H H') : BoxAt b H' := let ⟨o, e, h⟩ := hb; ⟨o, s _ _ e, h⟩
theorem ext_bx (s : LamX.ExtN H H') (nb : H b = none) (q : Bx b H' H2) : LamX.ExtN H H2 := fun a o e n => q.1 a o (ne_of_none e nb) (s a o e n)
theorem tabs_bx (t : NdefX.TabsN TT H) (hb : BoxAt b H) (s : Bx b H H') : NdefX.TabsN TT H' := fun p hp => by
  obtain ⟨ps, h1, h2, h3⟩ := t p hp
  have n : ∀ {x : Addr} {o : HO}, H x = some o → (∀ xs, o ≠ .lst xs) → H' x = some o := fun {x o} e ne => s.1 _ _ (fun z => by
    obtain ⟨o2, e2, p, q, w, rfl⟩ := hb
    rw [z, e2] at e
    exact ne _ (Option.some.inj e).symm) e
  refine ⟨ps, n h1 (by intro _ z; cases z), h2, fun pos cv hc => ?_⟩
  obtain ⟨c, e1, e2⟩ := h3 pos cv hc
  exact ⟨c, e1, n e2 (by intro _ z; cases z)⟩
theorem ext_seq {K : PySem.W.Frag} {a : Addr} {xs : List V} (s : LamX.ExtN H H') (h : SqL K H a xs) : SqL K H' a xs := by
  rcases h with (h | ⟨o, h⟩) | h
  · exact .inl (.inl (s _ _ h (by intro _ z; cases z)))
  · exact .inl (.inr ⟨o, s _ _ h (by intro _ z; cases z)⟩)
  · exact .inr h
theorem Live.same (l : Live TT C H H' b ta sg ms f tg pm pl ad p) (s : Same H' H2) : Live TT C H H2 b ta sg ms f tg pm pl ad p :=
  ⟨l.nb, l.npm, l.ext.trans (extN_same s), l.tabs.ext s, box_same l.box s, l.told.same s, l.rdr.same s⟩
theorem Live.bx (l : Live TT C H H' b ta sg ms f tg pm pl ad p) (s : Bx b H' H2) : Live TT C H H2 b ta sg ms f tg pm pl ad p :=
  ⟨l.nb, l.npm, ext_bx l.ext l.nb s, tabs_bx l.tabs l.box s, s.2, l.told.bx s l.box l.npm, rdr_bx l.box l.rdr s⟩
theorem Live.more (l : Live TT C H H' b ta sg ms f tg pm pl ad p) (s : LamX.ExtN H' H2) (t : NdefX.TabsN TT H2) : Live TT C H H2 b ta sg ms f tg pm pl ad p :=
  ⟨l.nb, l.npm, l.ext.trans s, t, let ⟨o, e, x, y, z, h⟩ := l.box; ⟨o, s _ _ e (by intro _ q; rw [h] at q; cases q), x, y, z, h⟩, l.told.ext s, l.rdr.ext s⟩
end
theorem fold_idx {sg : List Nat} {ms : List (List Nat)} {tg : List Nat → Nat → List Nat} (htg : ∀ m ∈ ms, ∀ c ∈ sg, tg m c ∈ ms) : ∀ {v x : List Nat}, x ∈ ms → Ov sg v → v.foldl (lcT ms tg) (ms.idxOf x) = ms.idxOf (ledTo tg x v)
  | [], _, _, _ => rfl
  | c :: v, x, hx, ho => by
    have hc := ho c List.mem_cons_self
    rw [List.foldl_cons, lcT_idx hx]
    exact fold_idx htg (v := v) (htg x hx c hc) fun d hd => ho d (List.mem_cons_of_mem _ hd)
theorem flO_idx {ms ls : List (List Nat)} {x : List Nat} (hx : x ∈ ms) : flO ms ls (ms.idxOf x) = decide (x ∈ ls) := by
  unfold flO
  have h1 := List.idxOf_lt_length_of_mem hx
  rw [List.getD_eq_getElem?_getD, List.getElem?_eq_getElem h1, List.getElem_idxOf]; rfl
theorem acc_led {sg : List Nat} {ms ls : List (List Nat)} {f : List Nat} {tg : List Nat → Nat → List Nat} (g : Good sg ms f tg) {v : List Nat} (ho : Ov sg v) : flO ms ls (v.foldl (lcT ms tg) (ms.idxOf f)) = decide (ledTo tg f v ∈ ls) := by
  rw [fold_idx g.htg g.hf ho, flO_idx (led_in g.htg ho g.hf)]
theorem rows_eq {sg : List Nat} {ms ls : List (List Nat)} {f : List Nat} {tg : List Nat → Nat → List Nat} (g : Good sg ms f tg) : ((upto sg 5).filter fun v => decide (ledTo tg f v ∈ ls)) = allR (flO ms ls) (lcT ms tg) sg (ms.idxOf f) 6 := by
  rw [all_level]
  exact List.filter_congr fun v hv => (acc_led g (upto_row hv).2).symm
structure LiveR (TT : List NdefX.NTab) (C : Addr) (H H' : Hp) (b ta : Addr) (sg : List Nat) (ms : List (List Nat)) (f : List Nat) (tg : List Nat → Nat → List Nat) (pm pl : Addr) (ad : List Nat → Addr) (p lp rp : Addr) (ls rs : List (List Nat)) : Prop where
  l : Live TT C H H' b ta sg ms f tg pm pl ad p
  nl : lp ≠ b
  hl : H' lp = some (.lst (txs ls))
  nr : rp ≠ b
  hr : H' rp = some (.lst (txs rs))
section
variable {TT : List NdefX.NTab} {C : Addr} {H H' H2 : Hp} {b ta : Addr} {sg : List Nat} {ms : List (List Nat)} {f : List Nat} {tg : List Nat → Nat → List Nat} {pm pl : Addr} {ad : List Nat → Addr} {p lp rp : Addr} {ls rs : List (List Nat)}
theorem LiveR.same (l : LiveR TT C H H' b ta sg ms f tg pm pl ad p lp rp ls rs) (s : Same H' H2) : LiveR TT C H H2 b ta sg ms f tg pm pl ad p lp rp ls rs := ⟨l.l.same s, l.nl, s _ _ l.hl, l.nr, s _ _ l.hr⟩
theorem LiveR.bx (l : LiveR TT C H H' b ta sg ms f tg pm pl ad p lp rp ls rs) (s : Bx b H' H2) : LiveR TT C H H2 b ta sg ms f tg pm pl ad p lp rp ls rs := ⟨l.l.bx s, l.nl, s.1 _ _ l.nl l.hl, l.nr, s.1 _ _ l.nr l.hr⟩
theorem LiveR.more (l : LiveR TT C H H' b ta sg ms f tg pm pl ad p lp rp ls rs) (s : LamX.ExtN H' H2) (t : NdefX.TabsN TT H2) : LiveR TT C H H2 b ta sg ms f tg pm pl ad p lp rp ls rs := ⟨l.l.more s t, l.nl, ext_lst s l.hl, l.nr, ext_lst s l.hr⟩
end
section
variable {P : Program} {w : World} {K : PySem.W.Frag} {mg : Str → Option Value} {base : Heap}
theorem all_sorted {fl : Nat → Bool} {lc : Nat → Nat → Nat} {sg : List Nat} (nd : sg.Nodup) (i : Nat) : ∀ L, (allR fl lc sg i L).Pairwise fun a b => UW.sl (ixs sg a) (ixs sg b)
  | 0 => .nil
  | L + 1 => by rw [all_level]; exact (upto_sorted nd L).filter _
theorem all_ord {fl : Nat → Bool} {lc : Nat → Nat → Nat} {sg : List Nat} (nd : sg.Nodup) {i L n m : Nat} {u v : List Nat} (h1 : (allR fl lc sg i L)[n]? = some u) (h2 : (allR fl lc sg i L)[m]? = some v) (h : n < m) : UW.sl (ixs sg u) (ixs sg v) := by
  have hs := all_sorted (fl := fl) (lc := lc) nd i L
  rw [List.pairwise_iff_getElem] at hs
  obtain ⟨a1, a2⟩ := List.getElem?_eq_some_iff.mp h1
  obtain ⟨b1, b2⟩ := List.getElem?_eq_some_iff.mp h2
  rw [← a2, ← b2]
  exact hs n m a1 b1 h
theorem all_inj {fl : Nat → Bool} {lc : Nat → Nat → Nat} {sg : List Nat} (nd : sg.Nodup) {i L M n m : Nat} {v : List Nat} (h1 : (allR fl lc sg i L)[n]? = some v) (h2 : (allR fl lc sg i M)[m]? = some v) : n = m := by
  have h1 := all_pre (Nat.le_max_left L M) h1
  have h2 := all_pre (Nat.le_max_right L M) h2
  rcases Nat.lt_trichotomy n m with h | h | h
  · exact absurd (all_ord nd h1 h2 h) UW.sl_irr
  · exact h
  · exact absurd (all_ord nd h2 h1 h) UW.sl_irr
theorem tot_zero {fl : Nat → Bool} {lc : Nat → Nat → Nat} {sg : List Nat} {i : Nat} (h : ∀ L, cntW fl lc sg L i = 0) : ∀ L, totW fl lc sg i L = 0
  | 0 => rfl
  | L + 1 => by
    show totW fl lc sg i L + cntW fl lc sg L i = 0
    rw [tot_zero h L, h L]
theorem seq_split {A B : TS} {D : Ends} {σ : L2.St} {H : Hp} (Pr : L2.St → Hp → Prop) (h1 : (∀ σ' H', Pr σ' H' → B D σ' H') → A { D with nx := B D } σ H) (h2 : ∀ σ' H', Pr σ' H' → B D σ' H') : tSeq A B D σ H := h1 h2
theorem and_false {u : TT} {σ : L2.St} {H : Hp} {Q : Bool → Hp → Prop} {bb : Bool} (hu : bb = true → (∀ H', Same H H' → Q false H') → u σ H Q) (h : ∀ H', Same H H' → Q false H') : (if bb = true then u σ H Q else Q false H) := by
  cases bb with
  | true => exact iteT (hu rfl h)
  | false => exact iteN rfl (h H (Same.refl _))
theorem s_q : (Str.ofString "q") = S [113] := by decide +kernel
theorem s_A : (Str.ofString "A") = S [65] := by decide +kernel
theorem s_sp : (Str.ofString " ") = S [32] := by decide +kernel
theorem idx_lt {sg : List Nat} (hs : sg.Pairwise (· < ·)) {a b : Nat} (ha : a ∈ sg) (hb : b ∈ sg) (h : sg.idxOf a < sg.idxOf b) : a < b := by
  have h1 := List.idxOf_lt_length_iff.mpr ha
  have h2 := List.idxOf_lt_length_iff.mpr hb
  rw [List.pairwise_iff_getElem] at hs
  have := hs _ _ h1 h2 h
  rwa [List.getElem_idxOf, List.getElem_idxOf] at this
theorem ixs_lt {sg : List Nat} (hs : sg.Pairwise (· < ·)) : ∀ {u v : List Nat}, Ov sg u → Ov sg v → ixs sg u < ixs sg v → u < v
  | [], [], _, _, h => absurd h (List.lt_irrefl _)
  | [], b :: v, _, _, _ => List.nil_lt_cons _ _
  | a :: u, [], _, _, h => absurd h (by unfold ixs; simp)
  | a :: u, b :: v, hu, hv, h => by
    unfold ixs at h
    rw [List.map_cons, List.map_cons] at h
    have ha := hu a List.mem_cons_self
    have hb := hv b List.mem_cons_self
    rcases List.cons_lt_cons_iff.mp h with h | ⟨h1, h2⟩
    · exact List.cons_lt_cons_iff.mpr (.inl (idx_lt hs ha hb h))
    · refine List.cons_lt_cons_iff.mpr (.inr ⟨?_, ixs_lt hs (fun c hc => hu c (List.mem_cons_of_mem _ hc)) (fun c hc => hv c (List.mem_cons_of_mem _ hc)) h2⟩)
      rcases Nat.lt_trichotomy a b with h | h | h
      · have h3 := List.idxOf_lt_length_iff.mpr ha
        have e1 : sg[sg.idxOf a]? = some a := by rw [List.getElem?_eq_getElem h3, List.getElem_idxOf]
        have h4 := List.idxOf_lt_length_iff.mpr hb
        have e2 : sg[sg.idxOf b]? = some b := by rw [List.getElem?_eq_getElem h4, List.getElem_idxOf]
        rw [h1, e2] at e1
        exact (Option.some.inj e1).symm
      · exact h
      · have h3 := List.idxOf_lt_length_iff.mpr ha
        have e1 : sg[sg.idxOf a]? = some a := by rw [List.getElem?_eq_getElem h3, List.getElem_idxOf]
        have h4 := List.idxOf_lt_length_iff.mpr hb
        have e2 : sg[sg.idxOf b]? = some b := by rw [List.getElem?_eq_getElem h4, List.getElem_idxOf]
        rw [h1, e2] at e1
        exact (Option.some.inj e1).symm
theorem ge_false {sg : List Nat} (hs : sg.Pairwise (· < ·)) {u v : List Nat} (hu : Ov sg u) (hv : Ov sg v) (h : UW.sl (ixs sg u) (ixs sg v)) : (if ((S u).length : Int) = ((S v).length : Int) then !decide ((S u).cps.toList < (S v).cps.toList) else decide (((S v).length : Int) ≤ ((S u).length : Int))) = false := by
  rw [S_len, S_len]
  have e1 : (S u).cps.toList = u := by simp [S]
  have e2 : (S v).cps.toList = v := by simp [S]
  rw [e1, e2]
  rcases h with h | ⟨h1, h2⟩
  · rw [ixs_len, ixs_len] at h
    rw [if_neg (by omega)]
    exact decide_eq_false (by omega)
  · rw [ixs_len, ixs_len] at h1
    rw [if_pos (by omega), decide_eq_true (ixs_lt hs hu hv h2)]; rfl
theorem if_head {σ : L2.St} {H : Hp} {Q : VK} {D : Addr} {rs : List (List Nat)} (h6 : σ[6]? = some (some (.ref D))) (hq : SqL K H D (txs rs)) (h : Q (optT rs.head?) H) : (if (!decide (rs = [])) = true then tOp (rIxL K) (tVar 6) (tC (.int 0)) σ H Q else tC .non σ H Q) := by
  cases rs with
  | nil => exact iteN rfl h
  | cons v r => exact iteB rfl ⟨_, h6, D, txs (v :: r), 0, .str (S v), rfl, rfl, hq, at_of rfl rfl, h⟩
theorem small_log (l : Nat) (h : l < 8) : ((l : Int)).natAbs.log2 < 1920 := by
  have : l = 0 ∨ l = 1 ∨ l = 2 ∨ l = 3 ∨ l = 4 ∨ l = 5 ∨ l = 6 ∨ l = 7 := by omega
  rcases this with rfl | rfl | rfl | rfl | rfl | rfl | rfl | rfl <;> decide
theorem ok_endless : OkQ (.str (Str.ofString "endless")) := by
  rw [show (Str.ofString "endless") = S [101, 110, 100, 108, 101, 115, 115] from by decide +kernel]
  exact .txt (by decide) (by decide)
theorem LiveR.rl {TT : List NdefX.NTab} {C : Addr} {H H' : Hp} {b ta : Addr} {sg : List Nat} {ms : List (List Nat)} {f : List Nat} {tg : List Nat → Nat → List Nat} {pm pl : Addr} {ad : List Nat → Addr} {p lp rp : Addr} {ls rs : List (List Nat)} (l : LiveR TT C H H' b ta sg ms f tg pm pl ad p lp rp ls rs) (g : Good sg ms f tg) (hs : ∀ x ∈ ls, x ∈ ms) (nd : ls.Nodup) : RL K C H' p lp true sg ms f tg ls := ⟨l.l.rdr, g, SqL.of l.hl, hs, nd⟩
abbrev s_law : Stmt := top 60
abbrev n_law : List Str := ["script", "base", "box", "told", "lot", "made", "rows", "length", "at", "row", "number", "later", "odd"]
theorem sc_law : FnScope n_law ["script"] (fnScope s_law) := fnScope_by (by decide +kernel)
theorem nxt_ {D : Ends} {σ : L2.St} {H : Hp} (h : D.nx σ H) : tNext D σ H := h
theorem extN_lst_ {H H' : Hp} {a : Addr} {xs : List V} (s : LamX.ExtN H H') (h : H a = some (.lst xs)) : H' a = some (.lst xs) := s _ _ h (by intro _ z; cases z)
def spLaw (TT : List NdefX.NTab) (K : PySem.W.Frag) : Sp := fun vs H Q _ => ∃ (a : Addr) (ns : List Int), vs = [.ref a] ∧ SqL K H a (ns.map V.int) ∧ ns.length ≤ 63 ∧ NdefX.TabsN TT H ∧ ∀ H', Q (.bl true) H'
theorem ok_law {C CI : Addr} {TT : List NdefX.NTab} (T : BT mg) (insC : InsC K C) (kS : PySem.W.kitOne K (.ref C) (.type "str") = some false) (c_box : Cal P w K mg base 1 "_law_box" (spBox K) []) (c_take : Cal P w K mg base 1 "_law_take" spTake []) (c_signs : Cal P w K mg base 3 "_law_signs" spSigns []) (c_drawn : Cal P w K mg base 3 "_law_drawn" spDrawn [])
    (c_made : Cal P w K mg base 7 "_law_made" (spMade C) []) (c_lot : Cal P w K mg base 3 "_law_lot" spLot []) (c_rows : Cal P w K mg base 1 "_law_rows" spRows []) (c_led : Cal P w K mg base 1 "_law_led" spLed [])
    (c_lrow : Cal P w K mg base 5 "least_row" (spLRow K C TT) []) (c_longest : Cal P w K mg base 4 "longest" (spLongest K C) []) (c_lgreat : Cal P w K mg base 2 "_law_greatest" (spLGreat K) []) (c_many : Cal P w K mg base 4 "how_many" (spMany K C) []) (c_lmany : Cal P w K mg base 1 "_law_many" (spLMany K) [])
    (c_rowat : Cal P w K mg base 4 "row_at" (spRowAt K C) []) (c_place : CalX P w K mg base 4 "place_of" (spPlace K C CI)) (c_missed : Cal P w K mg base 5 "_law_missed" (spMissed K C CI) [])
    {f : Addr} {fd : FuncData} (F : Def K mg "law" s_law f fd) : FnG P w K mg base 8 f fd ["script"] (spLaw TT K) := by
  refine fnG0 F.fn sc_law (fun vs H Q E h => ?_) (fun cd A ou t0 H vs Q E gd hr h => ?_)
  · obtain ⟨a, ns, rfl, _⟩ := h; rfl
  · obtain ⟨a, ns, rfl, ha, hl, hT, kk⟩ := h
    refine ⟨_, (pss_cons (ps_for PassesOwn.never rfl (pi_range1 (by rfl) T.m_range (pa_cons (pe_callB (call_max2 rfl) (by rfl) T.m_max PyProof.Rows.boot_max (pa_cons pe_int (pa_cons (pe_callB (call_min2 rfl) (by rfl) T.m_min PyProof.Rows.boot_min (pa_cons pe_int (pa_cons (pe_callB (lenK K) (by rfl) T.m_len PySem.boot_len (pa_cons (pv 0) pa_nil)) pa_nil))) pa_nil))) pa_nil)) (pg_name (i := 1) sc_law.nd rfl (.inl rfl)) 
        (pss_cons (ps_set (i := 2) sc_law.nd rfl (.inl rfl) (pe_c c_box hr (by first | decide | omega) (by rfl) (pa_cons (pv 0) (pa_cons (pv 1) pa_nil))))
        (pss_cons (ps_set (i := 3) sc_law.nd rfl (.inr rfl) (pe_c c_drawn hr (by first | decide | omega) (by rfl) (pa_cons (pv 2) (pa_cons (pe_c c_signs hr (by first | decide | omega) (by rfl) (pa_cons (pv 2) pa_nil)) (pa_cons pe_int pa_nil)))))
        (pss_cons (ps_asg (pe_tup (pa_cons (pe_c c_lot hr (by first | decide | omega) (by rfl) (pa_cons (pv 2) (pa_cons (pv 3) pa_nil))) (pa_cons (pe_c c_made hr (by first | decide | omega) (by rfl) (pa_cons (pv 3) pa_nil)) pa_nil))) (tupK K 2 (pgs_cons (pg_name (i := 4) sc_law.nd rfl (.inr rfl)) (pgs_cons (pg_name (i := 5) sc_law.nd rfl (.inl rfl)) pgs_nil))))
        (pss_cons (ps_setLc (i := 6) (own := [("row", 9)]) rfl sc_law.nd rfl rfl rfl (pi_list (pe_c c_rows hr (by first | decide | omega) (by rfl) (pa_cons (pe_dget (hu_of hr) (pv 3) pe_str (fun _ _ => rfl)) (pa_cons pe_int pa_nil)))) (blkOk_by (N := n_law) (sc := fnScope s_law) (by decide +kernel)) (fun _ _ _ _ _ => (pg_name (i := 9) sc_law.nd rfl (.inl rfl))) (fun _ _ _ _ _ => pts_one (pt_cmpR (inK K) (pe_c c_led hr (by first | decide | omega) (by rfl) (pa_cons (pv 3) (pa_cons (pe_dget (hu_of hr) (pv 3) pe_str (fun _ _ => rfl)) (pa_cons (pv 9) pa_nil)))) (pv 4) rfl)) (fun _ _ _ _ _ => (pv 9)))
        (pss_cons (ps_if (pt_cmpR op_ne (pe_callB call_reprQ (by rfl) T.m_repr PyProof.Rows.boot_repr (pa_cons (pe_c c_lrow hr (by first | decide | omega) (by rfl) (pa_cons (pv 5) (pa_cons (pv 4) pa_nil))) pa_nil)) (pe_callB call_reprQ (by rfl) T.m_repr PyProof.Rows.boot_repr (pa_cons (pe_ifExp (pt_cmpR (op_neSs hr) (pv 6) (pe_lst pa_nil) (nomark _)) (pe_ix (ixl K) (pv 6) pe_int (fun _ _ => rfl)) pe_non) pa_nil)) (nomark _)) 
          (pss_one (ps_ret pe_bl)
          )
         pss_nil)
        (pss_cons (ps_if (pt_cmpR op_ne (pe_callB call_reprQ (by rfl) T.m_repr PyProof.Rows.boot_repr (pa_cons (pe_c c_longest hr (by first | decide | omega) (by rfl) (pa_cons (pv 5) (pa_cons (pv 4) pa_nil))) pa_nil)) (pe_callB call_reprQ (by rfl) T.m_repr PyProof.Rows.boot_repr (pa_cons (pe_c c_lgreat hr (by first | decide | omega) (by rfl) (pa_cons (pv 3) (pa_cons (pv 4) pa_nil))) pa_nil)) (nomark _)) 
          (pss_one (ps_ret pe_bl)
          )
         pss_nil)
        (pss_cons (ps_for PassesOwn.never rfl (pi_tup (pe_tup (pa_cons pe_int (pa_cons pe_int (pa_cons pe_int (pa_cons pe_int (pa_cons pe_int (pa_cons pe_int (pa_cons pe_int (pa_cons (pe_op op_add pe_int (pe_c c_take hr (by first | decide | omega) (by rfl) (pa_cons (pv 2) (pa_cons pe_int pa_nil)))) pa_nil)))))))))) (pg_name (i := 7) sc_law.nd rfl (.inl rfl)) 
          (pss_one (ps_if (pt_cmpR op_ne (pe_c c_many hr (by first | decide | omega) (by rfl) (pa_cons (pv 5) (pa_cons (pv 4) (pa_cons (pv 7) pa_nil)))) (pe_c c_lmany hr (by first | decide | omega) (by rfl) (pa_cons (pv 3) (pa_cons (pv 4) (pa_cons (pv 7) pa_nil)))) (nomark _)) 
            (pss_one (ps_ret pe_bl)
            )
           pss_nil)
          ))
        (pss_cons (ps_for PassesOwn.never rfl (pi_enumX (by rfl) T.m_enumerate (pa_cons (pe_slice sl_list (pv 6) po_none (po_some pe_int)) pa_nil)) (tupK K 2 (pgs_cons (pg_name (i := 8) sc_law.nd rfl (.inl rfl)) (pgs_cons (pg_name (i := 9) sc_law.nd rfl (.inl rfl)) pgs_nil))) 
          (pss_one (ps_if (PW.pt (pw_or (pt_cmpR op_ne (pe_c c_rowat hr (by first | decide | omega) (by rfl) (pa_cons (pv 5) (pa_cons (pv 4) (pa_cons (pv 8) pa_nil)))) (pv 9) (nomark _)) (pw_or1 (pt_cmpR op_ne (pe_cX c_place takes_none5 hr (by first | decide | omega) (by rfl) (pa_cons (pv 5) (pa_cons (pv 4) (pa_cons (pv 9) pa_nil)))) (pv 8) (nomark _))))) 
            (pss_one (ps_ret pe_bl)
            )
           pss_nil)
          ))
        (pss_cons (ps_if (PW.pt (pw_and (pt_cmpR (op_neSs hr) (pv 6) (pe_lst pa_nil) (nomark _)) (pw_and1 (pt_cmpR op_ne (pe_cX c_place takes_none5 hr (by first | decide | omega) (by rfl) (pa_cons (pv 5) (pa_cons (pv 4) (pa_cons (pe_ix (ixl K) (pv 6) (pe_un un_neg pe_int) (fun _ _ => rfl)) pa_nil)))) (pe_op op_sub (pe_callB (lenK K) (by rfl) T.m_len PySem.boot_len (pa_cons (pv 6) pa_nil)) pe_int) (nomark _))))) 
          (pss_one (ps_ret pe_bl)
          )
         pss_nil)
        (pss_cons (ps_if (PW.pt (pw_and (pt_cmpR op_ne (pe_c c_lgreat hr (by first | decide | omega) (by rfl) (pa_cons (pv 3) (pa_cons (pv 4) pa_nil))) pe_str (nomark _)) (pw_and1 (pt_cmpR op_notN (pe_c c_rowat hr (by first | decide | omega) (by rfl) (pa_cons (pv 5) (pa_cons (pv 4) (pa_cons (pe_callB (lenK K) (by rfl) T.m_len PySem.boot_len (pa_cons (pv 6) pa_nil)) pa_nil)))) pe_non (nomark _))))) 
          (pss_one (ps_ret pe_bl)
          )
         pss_nil)
        (pss_cons (ps_for PassesOwn.never rfl (pi_list (pe_c c_rows hr (by first | decide | omega) (by rfl) (pa_cons (pe_dget (hu_of hr) (pv 3) pe_str (fun _ _ => rfl)) (pa_cons pe_int pa_nil)))) (pg_name (i := 9) sc_law.nd rfl (.inl rfl)) 
          (pss_one (ps_if (PW.pt (pw_and (pt_cmpR (notInK K) (pv 9) (pv 6) rfl) (pw_and1 (pt_cmpR op_notN (pe_cX c_place takes_none5 hr (by first | decide | omega) (by rfl) (pa_cons (pv 5) (pa_cons (pv 4) (pa_cons (pv 9) pa_nil)))) pe_non (nomark _))))) 
            (pss_one (ps_ret pe_bl)
            )
           pss_nil)
          ))
        (pss_cons (ps_if (PW.pt (pw_and (pt_cmpR op_gt (pe_c c_lmany hr (by first | decide | omega) (by rfl) (pa_cons (pv 3) (pa_cons (pv 4) (pa_cons pe_int pa_nil)))) (pe_op op_pow pe_int pe_int) (nomark _)) (pw_and1 (pt_cmpR op_gt (pe_c c_lmany hr (by first | decide | omega) (by rfl) (pa_cons (pv 3) (pa_cons (pv 4) (pa_cons pe_int pa_nil)))) (pe_op op_pow pe_int pe_int) (nomark _))))) 
          (pss_cons (ps_set (i := 10) sc_law.nd rfl (.inl rfl) (pe_op op_add (pe_c c_take hr (by first | decide | omega) (by rfl) (pa_cons (pv 2) (pa_cons (pe_op op_pow pe_int pe_int) pa_nil))) (pe_op op_pow pe_int pe_int)))
          (pss_cons (ps_par (i := 9) (j := 11) rfl sc_law.nd rfl rfl (by decide) rfl rfl (pa_cons (pe_c c_rowat hr (by first | decide | omega) (by rfl) (pa_cons (pv 5) (pa_cons (pv 4) (pa_cons (pv 10) pa_nil)))) (pa_cons (pe_c c_rowat hr (by first | decide | omega) (by rfl) (pa_cons (pv 5) (pa_cons (pv 4) (pa_cons (pe_op op_add (pv 10) pe_int) pa_nil)))) pa_nil)) rfl)
          (pss_one (ps_if (PW.pt (pw_or (pt_cmpR op_ne (pe_cX c_place takes_none5 hr (by first | decide | omega) (by rfl) (pa_cons (pv 5) (pa_cons (pv 4) (pa_cons (pv 9) pa_nil)))) (pv 10) (nomark _)) (pw_or1 (pt_cmpR (op_geIS hr.units0) (pe_tup (pa_cons (pe_callB call_len_str (by rfl) T.m_len PySem.boot_len (pa_cons (pv 9) pa_nil)) (pa_cons (pv 9) pa_nil))) (pe_tup (pa_cons (pe_callB call_len_str (by rfl) T.m_len PySem.boot_len (pa_cons (pv 11) pa_nil)) (pa_cons (pv 11) pa_nil))) (nomark _))))) 
            (pss_one (ps_ret pe_bl)
            )
           pss_nil)
          )))
         pss_nil)
        (pss_one (ps_for PassesOwn.never rfl (pi_tup (pe_tup (pa_cons pe_non (pa_cons pe_int (pa_cons pe_str (pa_cons pe_str (pa_cons (pe_lst (pa_cons pe_str pa_nil)) (pa_cons (pe_op op_add_str (pe_dget (hu_of hr) (pv 3) pe_str (fun _ _ => rfl)) pe_str) (pa_cons (pv 5) (pa_cons (pe_tup (pa_cons pe_str pa_nil)) pa_nil)))))))))) (pg_name (i := 12) sc_law.nd rfl (.inl rfl)) 
          (pss_one (ps_if (pt_not (pt_val (pe_c c_missed hr (by first | decide | omega) (by rfl) (pa_cons (pv 5) (pa_cons (pv 4) (pa_cons (pv 12) pa_nil)))))) 
            (pss_one (ps_ret pe_bl)
            )
           pss_nil)
          ))
        ))))))))))))))
      (pss_one (ps_ret pe_bl)
      )), ?_⟩
    refine ⟨_, rfl, a, _, rfl, .inl ha, _, _, rfl, _, _, rfl, ?_⟩
    rw [List.length_map]
    have hM : 0 ≤ (if (if (ns.length : Int) < 3 then (ns.length : Int) else 3) > 2 then (if (ns.length : Int) < 3 then (ns.length : Int) else 3) else 2) ∧ (if (if (ns.length : Int) < 3 then (ns.length : Int) else 3) > 2 then (if (ns.length : Int) < 3 then (ns.length : Int) else 3) else 2) ≤ 3 := by
      split <;> split <;> omega
    generalize (if (if (ns.length : Int) < 3 then (ns.length : Int) else 3) > 2 then (if (ns.length : Int) < 3 then (ns.length : Int) else 3) else 2) = M at hM ⊢
    refine ⟨_, rfl, by omega, by omega, ?_⟩
    refine for_it (walk_range (lo := 0)) (fun i σ H' => (∃ s1 s2 s3 s4 s5 s6 s7 s8 s9 s10 s11 s12 : Option V, σ = [some (.ref a), s1, s2, s3, s4, s5, s6, s7, s8, s9, s10, s11, s12]) ∧ LamX.ExtN H H' ∧ NdefX.TabsN TT H')
      ⟨⟨_, _, _, _, _, _, _, _, _, _, _, _, rfl⟩, LamX.ExtN.refl _, hT⟩ (fun _ _ _ _ _ => trivial) ?_ ?_
    · rintro i x σ H1 H1' hi ⟨⟨s1, s2, s3, s4, s5, s6, s7, s8, s9, s10, s11, s12, rfl⟩, e1, hT1⟩ ⟨rfl, rfl⟩
      have hi4 : i < 4 := by omega
      clear hi hM
      refine ⟨_, rfl, _, rfl, a, i, ns, by show [V.ref a, V.int (0 + (i : Int))] = _; rw [Int.zero_add], ext_seq e1 ha, hl, by omega, fun b H2 h2 nb hB => ?_⟩
      refine ⟨_, rfl, _, rfl, b, rfl, hB, fun sg H3 hsg h113 hB3 => ⟨b, sg, 4, rfl, hsg, by decide, by decide, hB3.2, fun ta ms f tg pm pl ad H4 hm hB4 na npm npl nad told4 => ?_⟩⟩
      have hgd := hm.good (by decide)
      have h4 := hm.hms.2.2.1
      have h3 := hgd.hsg.2.2.1
      have hsm : Small ms := fun l hl c hc => by have := (hgd.hnm l hl).2.2.1 c hc; omega
      have npmb : pm ≠ b := box_ne hB3.2 npm
      have hB24 := hB3.trans hB4
      refine ⟨_, rfl, _, rfl, b, ta, sg, ms, f, tg, pm, pl, ad, rfl, hB4.2, told4, npmb, hsm, hgd.hnd, by omega, fun ls lp H5 hls hlsn hB5 nlp hlp => ?_⟩
      have nlb : lp ≠ b := box_ne hB4.2 nlp
      have told5 := told4.bx hB5 hB4.2 npmb
      have hB25 := hB24.trans hB5
      refine ⟨_, rfl, ta, sg, ms, f, tg, pm, pl, ad, rfl, told5, hgd, fun p H6 s6 np hr6 => ?_⟩
      have L6 : Live TT C _ H6 b ta sg ms f tg pm pl ad p := ⟨nb, npmb, (ext_bx (extN_same h2) nb hB25).trans (extN_same s6), (tabs_bx (hT1.ext h2) hB hB25).ext s6, box_same hB25.2 s6, told5.same s6, hr6⟩
      have hl6 := s6 _ _ hlp
      clear hr6 np s6 hB25 hB24 told5 told4 na npl nad npm hB5 hB4 hB3 hB h2 hT1 hlp nlp
      refine ⟨by show 2 ≤ sizeLine; decide, fun tp htp => ?_⟩
      have sT : Same H6 (upd H6 tp (.tup [.ref lp, .ref p])) := sm_new htp
      refine ⟨tp, _, rfl, .inl (.inl upd_same), rfl, _, _, rfl, _, _, rfl, rfl, ?_⟩
      have L7 := L6.same sT
      have hl7 := sT _ _ hl6
      generalize upd H6 tp (.tup [.ref lp, .ref p]) = H7 at L7 hl7 ⊢
      clear sT htp L6 hl6
      refine ⟨_, rfl, _, _, rfl, L7.told.signs, sg, 5, rfl, h3, by decide, fun up H8 s8 n8 hup => ?_⟩
      have hul : (upto sg 5).length ≤ 486 := upto_len h3 5
      have L8 := L7.same s8
      have hl8 := s8 _ _ hl7
      refine ⟨up, rfl, ⟨_, SqL.of hup⟩, fun D hD => ?_⟩
      have nDb : D ≠ b := box_ne L8.box hD
      refine lc_it (walk_list (K := K) (a := up) (xs := txs (upto sg 5))) (fun j H' => Same H8 H' ∧ H' D = some (.lst (txs (((upto sg 5).take j).filter fun v => decide (ledTo tg f v ∈ ls)))))
        ⟨sm_new hD, upd_same⟩ (fun j H' _ ⟨s, _⟩ => SqL.of (s _ _ hup)) (fun j x H9 H9' hj ⟨s9', e9⟩ hy => ?_) (fun H9 ⟨s9', e9⟩ => ?_)
      · obtain ⟨rfl, ex⟩ := hy
        obtain ⟨v, hv, rfl⟩ := txs_get ex
        have ho : Ov sg v := (upto_row (List.mem_of_getElem? hv)).2
        have L9 := L8.same s9'
        refine ⟨rfl, ?_⟩
        refine ⟨_, rfl, _, rfl, _, _, rfl, L9.told.first, _, rfl, ta, sg, ms, f, tg, pm, pl, ad, f, v, rfl, L9.told, hgd.htg, hgd.hf, ho, ?_⟩
        refine ⟨_, rfl, lp, txs ls, rfl, .inl (SqL.of (s9' _ _ hl8)), rfl, flat_txs _, ?_⟩
        rw [inV_txs]
        refine ⟨_, rfl, ?_⟩
        rw [take_more hv, List.filter_append]
        cases e : decide (ledTo tg f v ∈ ls) with
        | true =>
          refine iteB rfl ⟨_, rfl, _, e9, ?_, sm_put s9' hD, ?_⟩
          · rw [txs_len]
            have := List.length_filter_le (fun v => decide (ledTo tg f v ∈ ls)) ((upto sg 5).take j)
            rw [List.length_take] at this
            exact small1000 (by omega)
          · rw [upd_same, List.filter_cons_of_pos (p := fun v => decide (ledTo tg f v ∈ ls)) e, List.filter_nil]
            unfold txs
            rw [List.map_append]; rfl
        | false =>
          refine iteN rfl ⟨s9', ?_⟩
          rw [List.filter_cons_of_neg (p := fun v => decide (ledTo tg f v ∈ ls)) (by rw [e]; exact Bool.false_ne_true), List.filter_nil, List.append_nil]
          exact e9
      · rw [txs_len, List.take_length, rows_eq hgd] at e9
        have L9 : LiveR TT C _ H9 b ta sg ms f tg pm pl ad p lp D ls _ := ⟨L8.same s9', nlb, s9' _ _ hl8, nDb, e9⟩
        have hidx : ms.idxOf f < ms.length := List.idxOf_lt_length_of_mem hgd.hf
        have hcl := closed_of hgd
        have hrm : ∀ v ∈ allR (flO ms ls) (lcT ms tg) sg (ms.idxOf f) 6, v.length ≤ 5 ∧ Ov sg v ∧ flO ms ls (v.foldl (lcT ms tg) (ms.idxOf f)) = true := fun v hv => by
          obtain ⟨h1, h2, h3⟩ := mem_all.mp hv
          exact ⟨by omega, h2, h3⟩
        have hrs : Small (allR (flO ms ls) (lcT ms tg) sg (ms.idxOf f) 6) := fun v hv c hc => by
          have := hgd.hsg.2.2.2 c ((hrm v hv).2.1 c hc); omega
        have hok : ∀ v ∈ allR (flO ms ls) (lcT ms tg) sg (ms.idxOf f) 6, OkQ (.str (S v)) := fun v hv => .txt (by have := (hrm v hv).1; omega) (hrs v hv)
        generalize hRS : allR (flO ms ls) (lcT ms tg) sg (ms.idxOf f) 6 = rs at L9 hrm hrs hok
        clear e9 s9' hl7 hl8 L7 L8 hup n8 s8 hul
        refine ⟨_, rfl, _, rfl, p, lp, true, sg, ms, f, tg, ls, rfl, L9.rl hgd hls hlsn, by omega, L9.l.tabs, fun H10 e10 hT10 => ?_⟩
        rw [hRS]
        have L10 := L9.more e10 hT10
        have hok1 : OkQ (optT rs.head?) := by
          cases rs with
          | nil => exact .non
          | cons v r => exact hok v List.mem_cons_self
        refine ⟨_, rfl, hok1, ?_⟩
        refine ⟨_, rfl, Nat.zero_le _, fun q hq => ?_⟩
        have sq : Same H10 (upd H10 q (.lst [])) := sm_new hq
        have L11 := L10.same sq
        refine ⟨D, q, rs, [], rfl, rfl, .inl ⟨SqL.of L11.hr, SqL.of upd_same⟩, hrs, (fun _ h => nomatch h), ?_⟩
        generalize upd H10 q (.lst []) = H11 at L11 ⊢
        clear sq hq L10 e10 hT10 L9 H10
        refine ⟨_, rfl, if_head rfl (SqL.of L11.hr) ?_⟩
        refine ⟨_, rfl, hok1, ?_⟩
        refine ⟨rfl, _, rfl, iteN (by simp) ?_⟩
        refine ⟨_, rfl, _, rfl, p, lp, true, sg, ms, f, tg, ls, rfl, L11.rl hgd hls hlsn, fun H12 s12 => ?_⟩
        have L12 := L11.same s12
        have hok2 : OkQ (lngV (lngP (flO ms ls) (lcT ms tg) sg ms.length (ms.idxOf f))) := by
          cases e : lngP (flO ms ls) (lcT ms tg) sg ms.length (ms.idxOf f) with
          | no => exact .non
          | fin l =>
            have := ((lng_fin hcl hidx).mp e).1
            exact .int (small_log l (by omega))
          | inf => exact ok_endless
        refine ⟨_, rfl, hok2, ?_⟩
        refine ⟨_, rfl, _, rfl, ta, lp, sg, ms, f, tg, pm, pl, ad, ls, rfl, L12.l.told, hgd, SqL.of L12.hl, fun H13 s13 => ?_⟩
        have L13 := L12.same s13
        rw [lng_eq hcl hidx h4]
        refine ⟨_, rfl, hok2, ?_⟩
        refine ⟨rfl, _, rfl, iteN (by simp) ?_⟩
        clear L12 L11 s12 s13 hok1 hok2
        refine ⟨_, rfl, b, 31, rfl, L13.l.box, by omega, by omega, fun d H14 d0 d1 hB14 => ?_⟩
        have L14 := L13.bx hB14
        obtain ⟨dn, rfl⟩ := Int.eq_ofNat_of_zero_le d0
        refine ⟨_, _, rfl, rfl, by show 8 ≤ sizeLine; decide, fun tq htq => ?_⟩
        have sq : Same H14 (upd H14 tq (.tup [.int 0, .int 1, .int 2, .int 3, .int 4, .int 5, .int 6, .int (30 + (dn : Int))])) := sm_new htq
        have etq : (upd H14 tq (.tup [.int 0, .int 1, .int 2, .int 3, .int 4, .int 5, .int 6, .int (30 + (dn : Int))])) tq = some (.tup [.int 0, .int 1, .int 2, .int 3, .int 4, .int 5, .int 6, .int (30 + (dn : Int))]) := upd_same
        generalize upd H14 tq (.tup [.int 0, .int 1, .int 2, .int 3, .int 4, .int 5, .int 6, .int (30 + (dn : Int))]) = H15 at sq etq ⊢
        have L15 := L14.same sq
        have items : ∀ (i : Nat) x, [V.int 0, .int 1, .int 2, .int 3, .int 4, .int 5, .int 6, .int (30 + (dn : Int))][i]? = some x → ∃ n : Nat, n ≤ 60 ∧ x = .int (n : Nat) := fun i x e => by
          match i, e with
          | 0, e => cases e; exact ⟨0, by decide, rfl⟩
          | 1, e => cases e; exact ⟨1, by decide, rfl⟩
          | 2, e => cases e; exact ⟨2, by decide, rfl⟩
          | 3, e => cases e; exact ⟨3, by decide, rfl⟩
          | 4, e => cases e; exact ⟨4, by decide, rfl⟩
          | 5, e => cases e; exact ⟨5, by decide, rfl⟩
          | 6, e => cases e; exact ⟨6, by decide, rfl⟩
          | 7, e => cases e; exact ⟨30 + dn, by omega, congrArg V.int (by omega)⟩
          | n + 8, e => simp at e
        clear sq htq L14 L13 hB14 d0
        refine ⟨tq, rfl, ⟨_, SqT.of etq⟩, ?_⟩
        refine for_it (walk_tup (K := K) (a := tq) (xs := [V.int 0, .int 1, .int 2, .int 3, .int 4, .int 5, .int 6, .int (30 + (dn : Int))])) (fun j σ H' => (∃ s7 s8 s9 s10 s11 s12 : Option V, σ = [some (.ref a), some (.int (0 + (i : Int))), some (.ref b), some (.ref ta), some (.ref lp), some (.ref p), some (.ref D), s7, s8, s9, s10, s11, s12]) ∧ Same H15 H')
          ⟨⟨_, _, _, _, _, _, rfl⟩, Same.refl _⟩ (fun _ σ H' _ h => SqT.of (h.2 _ _ etq)) ?_ ?_
        · rintro j x σ H16 H16' hj ⟨⟨s7, s8, s9, s10, s11, s12, rfl⟩, s16⟩ ⟨rfl, ex⟩
          obtain ⟨n, hn, rfl⟩ := items j x ex
          have L16 := L15.same s16
          refine ⟨_, rfl, _, rfl, _, rfl, p, lp, true, sg, ms, f, tg, ls, n, rfl, L16.rl hgd hls hlsn, by omega, fun H17 s17 => ?_⟩
          have L17 := L16.same s17
          refine ⟨_, rfl, _, rfl, _, rfl, ta, lp, sg, ms, f, tg, pm, pl, ad, ls, n, rfl, L17.l.told, hgd, SqL.of L17.hl, by omega, fun H18 s18 => ?_⟩
          refine ⟨rfl, _, rfl, iteN (by simp) ?_⟩
          exact ⟨⟨_, _, _, _, _, _, rfl⟩, (s16.trans s17).trans s18⟩
        · rintro σ H16 ⟨⟨s7, s8, s9, s10, s11, s12, rfl⟩, s16⟩
          have L16 := L15.same s16
          clear s16 L15 items etq
          refine ⟨_, rfl, (16 : Int), rfl, D, _, rfl, SqL.of L16.hr, fun cp hcp => ?_⟩
          have ecut : cutV (txs rs) none (some (16 : Int)) = txs (rs.take 16) := by
            have := cut_to rs 16
            simpa using this
          rw [ecut]
          have sc : Same H16 (upd H16 cp (.lst (txs (rs.take 16)))) := sm_new hcp
          have ecp : (upd H16 cp (.lst (txs (rs.take 16)))) cp = some (.lst (txs (rs.take 16))) := upd_same
          generalize upd H16 cp (.lst (txs (rs.take 16))) = H17 at sc ecp ⊢
          have L17 := L16.same sc
          clear sc hcp L16
          have hnd : sg.Nodup := hgd.hsg.1.imp fun h => Nat.ne_of_lt h
          refine ⟨.ref cp, .lst cp, rfl, rfl, ⟨_, SqL.of ecp⟩, ?_⟩
          refine for_it (walk_enumX (K := K) (S := .lst cp) (xs := txs (rs.take 16))) (fun j σ H' => (∃ s7 s8 s9 s10 s11 s12 : Option V, σ = [some (.ref a), some (.int (0 + (i : Int))), some (.ref b), some (.ref ta), some (.ref lp), some (.ref p), some (.ref D), s7, s8, s9, s10, s11, s12]) ∧ Same H17 H')
            ⟨⟨_, _, _, _, _, _, rfl⟩, Same.refl _⟩ (fun _ σ H' _ h => SqL.of (h.2 _ _ ecp)) ?_ ?_
          · rintro j x σ H18 H18' hj ⟨⟨s7, s8, s9, s10, s11, s12, rfl⟩, s18⟩ hy
            obtain ⟨t, x1, x2, rfl, htn, rfl, f1, f2⟩ := hy
            obtain rfl : V.int (j : Nat) = x1 := Option.some.inj f1
            have f2 : (txs (rs.take 16))[j]? = some x2 := f2
            obtain ⟨v, hv, rfl⟩ := txs_get f2
            have hvr : rs[j]? = some v := by
              have hj16 : j < 16 := by have := (List.getElem?_eq_some_iff.mp hv).1; rw [List.length_take] at this; omega
              rwa [List.getElem?_take_of_lt hj16] at hv
            obtain ⟨hv5, hvo, hva⟩ := hrm v (List.mem_of_getElem? hvr)
            have s19 : Same H18 (upd H18 t (.tup [.int (j : Nat), .str (S v)])) := sm_new htn
            have ht19 : (upd H18 t (.tup [.int (j : Nat), .str (S v)])) t = some (.tup [.int (j : Nat), .str (S v)]) := upd_same
            generalize upd H18 t (.tup [.int (j : Nat), .str (S v)]) = H19 at s19 ht19 ⊢
            have L19 := L17.same (s18.trans s19)
            refine ⟨t, _, rfl, .inl (.inl ht19), rfl, _, _, rfl, _, _, rfl, rfl, ?_⟩
            refine ⟨_, rfl, _, rfl, _, rfl, p, lp, true, sg, ms, f, tg, ls, j, rfl, L19.rl hgd hls hlsn, .inl ⟨6, v, by decide, by rw [hRS]; exact hvr, fun H20 s20 => ?_⟩⟩
            have L20 := L19.same s20
            refine ⟨_, rfl, rfl, _, rfl, iteN (by simp) ?_⟩
            refine ⟨_, rfl, _, rfl, _, rfl, p, lp, true, sg, ms, f, tg, ls, .str (S v), some v, rfl, L20.rl hgd hls hlsn, .txt v, (fun l e => by cases e; omega), .inl ⟨v, rfl, hvo, fun H21 s21 => ⟨fun _ n hn => ?_, fun h => absurd (h.symm.trans hva) Bool.false_ne_true⟩⟩⟩
            obtain rfl : n = j := all_inj hnd hn (L := v.length + 1) (M := 6) (by rw [hRS]; exact hvr)
            refine ⟨_, rfl, rfl, _, rfl, iteN (by simp) ?_⟩
            exact ⟨⟨_, _, _, _, _, _, rfl⟩, ((s18.trans s19).trans s20).trans s21⟩
          · rintro σ H18 ⟨⟨s7, s8, s9, s10, s11, s12, rfl⟩, s18⟩
            have L18 := L17.same s18
            clear s18 L17 ecp
            refine ⟨_, rfl, Nat.zero_le _, fun q hq => ?_⟩
            have sq : Same H18 (upd H18 q (.lst [])) := sm_new hq
            have L19 := L18.same sq
            refine ⟨D, q, rs, [], rfl, rfl, .inl ⟨SqL.of L19.hr, SqL.of upd_same⟩, hrs, (fun _ h => nomatch h), _, rfl, ?_⟩
            generalize upd H18 q (.lst []) = H19 at L19 ⊢
            clear sq hq L18
            refine and_false (fun hb k2 => ?_) (fun H20 s20 => ?_)
            · have hne : 0 < rs.length := by
                cases rs with
                | nil => simp at hb
                | cons _ _ => exact Nat.zero_lt_succ _
              obtain ⟨v, hv⟩ : ∃ v, rs[rs.length - 1]? = some v := ⟨_, List.getElem?_eq_getElem (by omega)⟩
              obtain ⟨hv5, hvo, hva⟩ := hrm v (List.mem_of_getElem? hv)
              refine ⟨_, rfl, _, rfl, _, rfl, _, rfl, D, _, _, .str (S v), rfl, rfl, SqL.of L19.hr, at_last (by rw [txs_len]; exact hne) (by rw [txs_len]; unfold txs; rw [List.getElem?_map, hv]; rfl), ?_⟩
              refine ⟨p, lp, true, sg, ms, f, tg, ls, .str (S v), some v, rfl, L19.rl hgd hls hlsn, .txt v, (fun l e => by cases e; omega), .inl ⟨v, rfl, hvo, fun H21 s21 => ⟨fun _ n hn => ?_, fun h => absurd (h.symm.trans hva) Bool.false_ne_true⟩⟩⟩
              obtain rfl : n = rs.length - 1 := all_inj hnd hn (L := v.length + 1) (M := 6) (by rw [hRS]; exact hv)
              have L21 := L19.same s21
              refine ⟨_, rfl, D, _, rfl, .inl (SqL.of L21.hr), _, _, rfl, rfl, rfl, false, ?_, k2 H21 s21⟩
              rw [txs_len]
              refine congrArg V.bl ?_
              rw [Bool.not_eq_false', decide_eq_true_eq]
              exact congrArg V.int (by omega)
            · refine iteN rfl ?_
              have L20 := L19.same s20
              clear s20 L19
              refine ⟨_, rfl, _, rfl, ta, lp, sg, ms, f, tg, pm, pl, ad, ls, rfl, L20.l.told, hgd, SqL.of L20.hl, fun H21 s21 => ?_⟩
              rw [lng_eq hcl hidx h4]
              have L21 := L20.same s21
              refine ⟨by cases lngP (flO ms ls) (lcT ms tg) sg ms.length (ms.idxOf f) <;> rfl, _, rfl, ?_⟩
              refine and_false (fun hb k2 => ?_) (fun H22 s22 => ?_)
              · have hni : lngP (flO ms ls) (lcT ms tg) sg ms.length (ms.idxOf f) ≠ .inf := fun e => by
                  rw [e] at hb
                  simp [lngV] at hb
                have hrl6 : rs.length = totW (flO ms ls) (lcT ms tg) sg (ms.idxOf f) 6 := by rw [← hRS, all_len]
                have htot : ∀ L, totW (flO ms ls) (lcT ms tg) sg (ms.idxOf f) L ≤ rs.length := fun L => by
                  cases e : lngP (flO ms ls) (lcT ms tg) sg ms.length (ms.idxOf f) with
                  | no => rw [tot_zero ((lng_no hcl hidx).mp e)]; exact Nat.zero_le _
                  | fin l =>
                    have h1 := tot_fin hcl hidx e L
                    have h2 := ((lng_fin hcl hidx).mp e).1
                    have h3 := tot_le (fl := flO ms ls) (lc := lcT ms tg) (sg := sg) (i := ms.idxOf f) (show l + 1 ≤ 6 by omega)
                    omega
                  | inf => exact absurd e hni
                refine ⟨_, rfl, _, rfl, _, rfl, D, _, rfl, .inl (SqL.of L21.hr), p, lp, true, sg, ms, f, tg, ls, rs.length, by rw [txs_len]; rfl, L21.rl hgd hls hlsn, .inr ⟨htot, hni, fun H22 s22 => ?_⟩⟩
                exact ⟨rfl, false, rfl, k2 H22 s22⟩
              · refine iteN rfl ?_
                have L22 := L21.same s22
                clear s22 L21 s21 L20
                refine ⟨_, rfl, _, _, rfl, L22.l.told.signs, sg, 3, rfl, h3, by decide, fun up3 H23 s23 n23 hup3 => ?_⟩
                have L23 := L22.same s23
                refine ⟨up3, rfl, ⟨_, SqL.of hup3⟩, ?_⟩
                refine for_it (walk_list (K := K) (a := up3) (xs := txs (upto sg 3))) (fun j σ H' => (∃ s7 s8 s9 s10 s11 s12 : Option V, σ = [some (.ref a), some (.int (0 + (i : Int))), some (.ref b), some (.ref ta), some (.ref lp), some (.ref p), some (.ref D), s7, s8, s9, s10, s11, s12]) ∧ Same H23 H')
                  ⟨⟨_, _, _, _, _, _, rfl⟩, Same.refl _⟩ (fun _ σ H' _ h => SqL.of (h.2 _ _ hup3)) ?_ ?_
                · rintro j x σ H24 H24' hj ⟨⟨s7, s8, s9, s10, s11, s12, rfl⟩, s24⟩ ⟨rfl, ex⟩
                  obtain ⟨v, hv, rfl⟩ := txs_get ex
                  obtain ⟨hv3, hvo⟩ := upto_row (List.mem_of_getElem? hv)
                  have L24 := L23.same s24
                  refine ⟨_, rfl, _, rfl, D, txs rs, rfl, .inl (SqL.of L24.hr), rfl, flat_txs _, ?_⟩
                  rw [inV_txs]
                  refine ⟨_, rfl, and_false (fun hb k2 => ?_) (fun H25 s25 => ?_)⟩
                  · have hnr : v ∉ rs := fun h => by rw [decide_eq_true h] at hb; simp at hb
                    refine ⟨_, rfl, _, rfl, _, rfl, p, lp, true, sg, ms, f, tg, ls, .str (S v), some v, rfl, L24.rl hgd hls hlsn, .txt v, (fun l e => by cases e; omega), .inl ⟨v, rfl, hvo, fun H25 s25 => ⟨fun h => absurd (by rw [← hRS]; exact mem_all.mpr ⟨by omega, hvo, h⟩) hnr, fun _ => ?_⟩⟩⟩
                    exact ⟨rfl, false, rfl, k2 H25 s25⟩
                  · refine iteN rfl ?_
                    exact ⟨⟨_, _, _, _, _, _, rfl⟩, s24.trans s25⟩
                · rintro σ H24 ⟨⟨s7, s8, s9, s10, s11, s12, rfl⟩, s24⟩
                  have L24 := L23.same s24
                  clear s24 L23 hup3 n23 s23 L22
                  dsimp only
                  refine seq_split (fun σ' H' => (∃ s7 s8 s9 s10 s11 s12 : Option V, σ' = [some (.ref a), some (.int (0 + (i : Int))), some (.ref b), some (.ref ta), some (.ref lp), some (.ref p), some (.ref D), s7, s8, s9, s10, s11, s12]) ∧ LiveR TT C H1' H' b ta sg ms f tg pm pl ad p lp D ls rs) (fun rest => ?_) ?_
                  · refine ⟨_, rfl, _, rfl, ta, lp, sg, ms, f, tg, pm, pl, ad, ls, 40, rfl, L24.l.told, hgd, SqL.of L24.hl, by decide, fun H25 s25 => ?_⟩
                    have L25 := L24.same s25
                    refine ⟨_, _, rfl, rfl, ⟨by decide, by decide, by decide⟩, _, _, rfl, rfl, _, rfl, ?_⟩
                    by_cases h40 : (10 : Int) ^ (9 : Int).toNat < (cntW (flO ms ls) (lcT ms tg) sg 40 (ms.idxOf f) : Nat)
                    · refine iteB (decide_eq_true h40) ?_
                      refine ⟨_, rfl, _, rfl, ta, lp, sg, ms, f, tg, pm, pl, ad, ls, 39, rfl, L25.l.told, hgd, SqL.of L25.hl, by decide, fun H26 s26 => ?_⟩
                      have L26 := L25.same s26
                      refine ⟨_, _, rfl, rfl, ⟨by decide, by decide, by decide⟩, _, _, rfl, rfl, _, rfl, ?_⟩
                      by_cases h39 : (10 : Int) ^ (9 : Int).toNat < (cntW (flO ms ls) (lcT ms tg) sg 39 (ms.idxOf f) : Nat)
                      · refine iteB (decide_eq_true h39) ?_
                        refine ⟨_, rfl, _, _, rfl, rfl, ⟨by decide, by decide, by decide⟩, ?_⟩
                        refine ⟨b, _, rfl, L26.l.box, by decide, by decide, fun d H27 d0 d1 hB27 => ?_⟩
                        have L27 := L26.bx hB27
                        obtain ⟨dn, rfl⟩ := Int.eq_ofNat_of_zero_le d0
                        refine ⟨_, _, rfl, rfl, ⟨by decide, by decide, by decide⟩, _, _, rfl, rfl, ?_⟩
                        have e9' : (10 : Int) ^ (9 : Int).toNat = 1000000000 := by decide
                        obtain ⟨N, hN⟩ : ∃ N : Nat, N = dn + 1000000000 := ⟨_, rfl⟩
                        have eN : ((dn : Int) + (10 : Int) ^ (9 : Int).toNat) = ((N : Nat) : Int) := by rw [e9', hN]; omega
                        rw [e9'] at h39 h40 d1
                        have htl : N + 1 < totW (flO ms ls) (lcT ms tg) sg (ms.idxOf f) 41 := by
                          have : totW (flO ms ls) (lcT ms tg) sg (ms.idxOf f) 41 = totW (flO ms ls) (lcT ms tg) sg (ms.idxOf f) 39 + cntW (flO ms ls) (lcT ms tg) sg 39 (ms.idxOf f) + cntW (flO ms ls) (lcT ms tg) sg 40 (ms.idxOf f) := rfl
                          omega
                        have hvx : ∀ n, n < totW (flO ms ls) (lcT ms tg) sg (ms.idxOf f) 41 → ∃ v, (allR (flO ms ls) (lcT ms tg) sg (ms.idxOf f) 41)[n]? = some v := fun n h => ⟨_, List.getElem?_eq_getElem (by rw [all_len]; exact h)⟩
                        obtain ⟨v, hv⟩ := hvx (N) (by omega)
                        obtain ⟨v2, hv2⟩ := hvx (N + 1) (by omega)
                        obtain ⟨hvl, hvo, hva⟩ := mem_all.mp (List.mem_of_getElem? hv)
                        obtain ⟨hvl2, hvo2, _⟩ := mem_all.mp (List.mem_of_getElem? hv2)
                        have hsl := all_ord hnd hv hv2 (by omega)
                        have eN' : ((fun (i j : Int) => V.int (i + j)) (dn : Int) ((10 : Int) ^ (9 : Int).toNat)) = V.int ((N : Nat) : Int) := congrArg V.int eN
                        rw [eN']
                        refine ⟨_, rfl, _, rfl, _, rfl, p, lp, true, sg, ms, f, tg, ls, N, rfl, L27.rl hgd hls hlsn, .inl ⟨41, v, by decide, hv, fun H28 s28 => ?_⟩⟩
                        have L28 := L27.same s28
                        refine ⟨_, rfl, _, rfl, _, rfl, _, _, rfl, rfl, p, lp, true, sg, ms, f, tg, ls, N + 1, rfl, L28.rl hgd hls hlsn, .inl ⟨41, v2, by decide, hv2, fun H29 s29 => ?_⟩⟩
                        have L29 := L28.same s29
                        refine ⟨_, _, rfl, ?_⟩
                        refine ⟨_, rfl, _, rfl, _, rfl, p, lp, true, sg, ms, f, tg, ls, .str (S v), some v, rfl, L29.rl hgd hls hlsn, .txt v, (fun l e => by cases e; omega), .inl ⟨v, rfl, hvo, fun H30 s30 => ⟨fun _ n hn => ?_, fun h => absurd (h.symm.trans hva) Bool.false_ne_true⟩⟩⟩
                        obtain rfl : n = N := all_inj hnd hn hv
                        have L30 := L29.same s30
                        refine ⟨_, rfl, rfl, _, rfl, iteN (by simp) ?_⟩
                        have sz1 : (S v).length ≤ sizeLine := by rw [S_len]; exact sz (m := 100) (by omega) (by decide)
                        have sz2 : (S v2).length ≤ sizeLine := by rw [S_len]; exact sz (m := 100) (by omega) (by decide)
                        refine ⟨_, rfl, S v, rfl, sz1, _, rfl, by show 2 ≤ sizeLine; decide, fun t1 ht1 => ?_⟩
                        have st1 : Same H30 (upd H30 t1 (.tup [.int ((S v).length : Nat), .str (S v)])) := sm_new ht1
                        have et1 : (upd H30 t1 (.tup [.int ((S v).length : Nat), .str (S v)])) t1 = some (.tup [.int ((S v).length : Nat), .str (S v)]) := upd_same
                        generalize upd H30 t1 (.tup [.int ((S v).length : Nat), .str (S v)]) = H31 at st1 et1 ⊢
                        refine ⟨_, rfl, S v2, rfl, sz2, _, rfl, by show 2 ≤ sizeLine; decide, fun t2 ht2 => ?_⟩
                        have st2 : Same H31 (upd H31 t2 (.tup [.int ((S v2).length : Nat), .str (S v2)])) := sm_new ht2
                        have L32 := (L30.same st1).same st2
                        refine ⟨t1, t2, _, _, S v, S v2, rfl, rfl, st2 _ _ et1, upd_same, _, rfl, ?_⟩
                        refine iteN (ge_false hgd.hsg.1 hvo hvo2 hsl) ?_
                        exact rest _ _ ⟨⟨_, _, _, _, _, _, rfl⟩, L32⟩
                      · refine iteN (decide_eq_false h39) ?_
                        exact rest _ _ ⟨⟨_, _, _, _, _, _, rfl⟩, L26⟩
                    · refine iteN (decide_eq_false h40) ?_
                      exact rest _ _ ⟨⟨_, _, _, _, _, _, rfl⟩, L25⟩
                  · rintro σ' H25 ⟨⟨s7, s8, s9, s10, s11, s12, rfl⟩, L25⟩
                    have hq5 : H25 ta = H25 ta := rfl
                    refine ⟨by show 1 ≤ sizeLine; decide, fun p5 hp5 => ?_⟩
                    have q5 : Same H25 (upd H25 p5 (.lst [.str (Str.ofString "")])) := sm_new hp5
                    have e5 : (upd H25 p5 (.lst [.str (Str.ofString "")])) p5 = some (.lst [.str (Str.ofString "")]) := upd_same
                    generalize upd H25 p5 (.lst [.str (Str.ofString "")]) = H26 at q5 e5 ⊢
                    have L26 := L25.same q5
                    refine ⟨_, rfl, _, _, rfl, L26.l.told.signs, S sg, Str.ofString "q", rfl, rfl, by rw [s_q, S_len, S_len]; exact sz (m := 100) (by show sg.length + 1 ≤ 100; omega) (by decide), ?_⟩
                    refine ⟨_, rfl, by show 1 ≤ sizeLine; decide, fun p8 hp8 => ?_⟩
                    have q8 : Same H26 (upd H26 p8 (.tup [.str (Str.ofString "a")])) := sm_new hp8
                    have e8 : (upd H26 p8 (.tup [.str (Str.ofString "a")])) p8 = some (.tup [.str (Str.ofString "a")]) := upd_same
                    generalize upd H26 p8 (.tup [.str (Str.ofString "a")]) = H27 at q8 e8 ⊢
                    rw [s_q, s_A, s_sp, S_cat]
                    refine ⟨by show 8 ≤ sizeLine; decide, fun p9 hp9 => ?_⟩
                    have q9 : Same H27 (upd H27 p9 (.tup [.non, .int 3, .str (S [65]), .str (S [32]), .ref p5, .str (S (sg ++ [113])), .ref p, .ref p8])) := sm_new hp9
                    have e9 : (upd H27 p9 (.tup [.non, .int 3, .str (S [65]), .str (S [32]), .ref p5, .str (S (sg ++ [113])), .ref p, .ref p8])) p9 = some (.tup [.non, .int 3, .str (S [65]), .str (S [32]), .ref p5, .str (S (sg ++ [113])), .ref p, .ref p8]) := upd_same
                    generalize upd H27 p9 (.tup [.non, .int 3, .str (S [65]), .str (S [32]), .ref p5, .str (S (sg ++ [113])), .ref p, .ref p8]) = H28 at q9 e9 ⊢
                    have L28 := (L26.same q8).same q9
                    have nov : ∀ l : List Nat, (∃ c ∈ l, c < 97 ∨ c = 113) → rowO sg (some l) = false := fun l ⟨c, hc, h⟩ => by
                      refine decide_eq_false fun ho => ?_
                      have h1 := hgd.hsg.2.2.2 c (ho c hc)
                      have h2 := h113 c (ho c hc)
                      omega
                    have items : ∀ (i : Nat) x, [V.non, .int 3, .str (S [65]), .str (S [32]), .ref p5, .str (S (sg ++ [113])), .ref p, .ref p8][i]? = some x → ∃ o, Kv K H28 x o ∧ rowO sg o = false ∧ ∀ l, o = some l → l.length ≤ 70 := fun i x e => by
                      match i, e with
                      | 0, e => cases e; exact ⟨none, .no (.base .non) (kit_ty (a := "NoneType") (by decide +kernel)), rfl, fun l h => (nomatch h)⟩
                      | 1, e => cases e; exact ⟨none, .no (.base (.int _)) (kit_ty (a := "int") (by decide +kernel)), rfl, fun l h => (nomatch h)⟩
                      | 2, e => cases e; exact ⟨_, .txt _, nov _ ⟨65, by decide, by decide⟩, fun l h => by cases h; decide⟩
                      | 3, e => cases e; exact ⟨_, .txt _, nov _ ⟨32, by decide, by decide⟩, fun l h => by cases h; decide⟩
                      | 4, e => cases e; exact ⟨none, .no (ty_seqL (SqL.of (q9 _ _ (q8 _ _ e5)))) (kit_ty (a := "list") (by decide +kernel)), rfl, fun l h => (nomatch h)⟩
                      | 5, e => cases e; exact ⟨_, .txt _, nov _ ⟨113, List.mem_append_right _ List.mem_cons_self, .inr rfl⟩, fun l h => by cases h; rw [List.length_append]; show sg.length + 1 ≤ 70; omega⟩
                      | 6, e =>
                        cases e
                        obtain ⟨dx, m, st, nu, le, sa, la, co, ca, r, hcol⟩ := L28.l.rdr
                        exact ⟨none, kv_ins insC kS r.ha, rfl, fun l h => (nomatch h)⟩
                      | 7, e => cases e; exact ⟨none, .no (ty_seqT (SqT.of (q9 _ _ e8))) (kit_ty (a := "tuple") (by decide +kernel)), rfl, fun l h => (nomatch h)⟩
                      | n + 8, e => simp at e
                    refine ⟨p9, rfl, ⟨_, SqT.of e9⟩, ?_⟩
                    refine for_it (walk_tup (K := K) (a := p9) (xs := [V.non, .int 3, .str (S [65]), .str (S [32]), .ref p5, .str (S (sg ++ [113])), .ref p, .ref p8])) (fun j σ H' => (∃ s7 s8 s9 s10 s11 s12 : Option V, σ = [some (.ref a), some (.int (0 + (i : Int))), some (.ref b), some (.ref ta), some (.ref lp), some (.ref p), some (.ref D), s7, s8, s9, s10, s11, s12]) ∧ Same H28 H')
                      ⟨⟨_, _, _, _, _, _, rfl⟩, Same.refl _⟩ (fun _ σ H' _ h => SqT.of (h.2 _ _ e9)) ?_ ?_
                    · rintro j x σ H29 H29' hj ⟨⟨s7, s8, s9, s10, s11, s12, rfl⟩, s29⟩ ⟨rfl, ex⟩
                      obtain ⟨o, hv, ho, hlo⟩ := items j x ex
                      have L29 := L28.same s29
                      refine ⟨_, rfl, _, rfl, _, rfl, p, lp, true, sg, ms, f, tg, ls, x, o, rfl, L29.rl hgd hls hlsn, kv_same s29 hv, hlo, ho, fun H30 s30 => ?_⟩
                      refine ⟨true, rfl, iteN rfl ?_⟩
                      exact ⟨⟨_, _, _, _, _, _, rfl⟩, s29.trans s30⟩
                    · rintro σ H29 ⟨⟨s7, s8, s9, s10, s11, s12, rfl⟩, s29⟩
                      have L29 := L28.same s29
                      exact ⟨⟨_, _, _, _, _, _, _, _, _, _, _, _, rfl⟩, e1.trans L29.l.ext, L29.l.tabs⟩
    · rintro σ H1 ⟨⟨s1, s2, s3, s4, s5, s6, s7, s8, s9, s10, s11, s12, rfl⟩, e1, hT1⟩
      exact kk H1
end
end Toy
set_option maxHeartbeats 4000000
namespace LX
open PySem PySem.Spec PyProof.Rows L2 C8 SX
abbrev NoCode : Obj := { cls := .none, data := .fields #[] }
abbrev ListO (vs : List Value) : Obj := { cls := .type "list", data := .seq vs.toArray }
structure Tabbing (K : PySem.W.Frag) (mg : Str → Option Value) (h : Heap) (tt : List (Addr × Addr)) : Prop where
  empty : ∀ p ∈ tt, h.get? p.2 = some NoCode
  loose : ∀ p ∈ tt, K.lookup p.2 = none
  code : ∀ p ∈ tt, PySem.W.CodeHd h p.1 p.2
  bm : ∃ (m : Addr) (o : Obj), mg "__builtins__" = some (.ref m) ∧ m ≠ builtinsNs ∧ h.get? m = some o ∧ o.cls = .type "module" ∧ o.dict = some builtinsNs ∧ o.data = .plain
section
variable {P : Program} {w : World} {K : PySem.W.Frag} {mg mb : Str → Option Value} {k : Nat} {fa a : Addr} {fd : FuncData} {x : Str} {sp : Sp} {s : Shared} {vs : List Value} {ns : List Int} {tt : List (Addr × Addr)}
theorem lawGT_at {H : Hp} (tb : Tabbing K mg s.heap tt) (KX : K.In s.heap) (names : s.heap.Ns mainGlobals mg) (bnames : s.heap.Ns builtinsNs mb) (boot : ∀ x : Str, x ≠ "__name__" → mb x = bootBuiltins x) (lim : s.heap.NoLimit) (gens : s.gens = #[])
    (script : s.heap.get? a = some (ListO vs)) (room : Room k callerA) (F : ∀ base : Heap, K.In base → base.Ns mainGlobals mg → (∀ p ∈ tt, LamX.TabB base mg p.1 p.2) → FnG P w K mg base k fa fd [x] sp)
    (binds : ∀ (s : Shared) (u : Value), BindsTo s fd ⟨[u], []⟩ [(x, u)]) (want : sp [.ref a] H (fun v _ => v = .bl true) C8.E0) (ok : HOk P w H s.heap) (tabs : ∀ p ∈ tt, H p.2 = some (.tbl #[]))
    (here : ∀ b u, H b = some u → (b = a ∧ ∃ o xs, u = .frz o (.lst xs)) ∨ ∃ p ∈ tt, p.2 = b) (notK : H a ≠ none → K.lookup a = none) :
    codeAny (model P w) callerA (.call (.ref fa) ⟨[.ref a], []⟩) (fun r s' => Done s s' r) s := by
  have off_script : ∀ p ∈ tt, p.2 ≠ a := fun p hp e => by
    have q := tb.empty p hp
    rw [e, script] at q
    have q2 : Data.seq vs.toArray _ = Data.fields #[] := congrArg Obj.data (Option.some.inj q)
    cases q2
  have clear_of : ∀ {b : Addr} {o : Obj}, s.heap.get? b = some o → o ≠ ListO vs → o ≠ NoCode → H b = none := fun {b o} e n1 n2 => by
    cases q : H b with
    | none => rfl
    | some u =>
      rcases here b u q with ⟨rfl, _⟩ | ⟨p, hp, rfl⟩
      · rw [script] at e; exact absurd (Option.some.inj e).symm n1
      · rw [tb.empty p hp] at e; exact absurd (Option.some.inj e).symm n2
  have see : ∀ {b : Addr} {o : Obj}, s.heap.get? b = some o → o ≠ ListO vs → o ≠ NoCode → (hidT s.heap H).get? b = some o := fun e n1 n2 => hidT_get e (clear_of e n1 n2)
  have names_see : ∀ {b : Addr} {m : Str → Option Value}, s.heap.Ns b m → (hidT s.heap H).Ns b m := fun {b m} ⟨o, es, ep, e, d, r⟩ =>
    ⟨o, es, ep, see e (fun z => by rw [z] at d; cases d) (fun z => by rw [z] at d; cases d), d, r⟩
  have KH : K.In (hidT s.heap H) := fun b o e => hidT_get (KX b o e) (by
    cases q : H b with
    | none => rfl
    | some u =>
      rcases here b u q with ⟨rfl, _⟩ | ⟨p, hp, rfl⟩
      · rw [notK (by rw [q]; simp)] at e; cases e
      · rw [tb.loose p hp] at e; cases e)
  have md : Mod K mg (hidT s.heap H) := by
    obtain ⟨mc, c1, c2⟩ := lim
    exact ⟨KH, names_see names, ⟨mb, names_see bnames, boot⟩, mc, names_see c1, c2⟩
  have based : ∀ p ∈ tt, LamX.TabB (hidT s.heap H) mg p.1 p.2 := fun p hp => by
    have none_at : ∀ {o : Obj}, s.heap.get? p.2 = some o → o = NoCode := fun e => by rw [tb.empty p hp] at e; exact (Option.some.inj e).symm
    constructor
    · obtain ⟨o, us, fl, t1, fg, t2, bf, tx, t3, e, cls, dat, at11, rest⟩ := tb.code p hp
      exact ⟨o, us, fl, t1, fg, t2, bf, tx, t3, see e (fun z => by rw [z] at dat; cases dat) (fun z => by rw [z] at dat; cases dat; simp at at11), cls, dat, at11, rest⟩
    · obtain ⟨m, o, named, apart, e, cls, dct, dat⟩ := tb.bm
      refine ⟨m, o, named, apart, fun z => ?_, fun z => ?_, see e (fun z => by rw [z] at dat; cases dat) (fun z => by rw [z] at dat; cases dat), cls, dct, dat⟩
      · obtain ⟨o2, es, ep, e2, d2, _⟩ := names
        rw [z, e2] at e
        cases e
        rw [d2] at dat
        cases dat
      · rw [z] at e
        rw [none_at e] at dat
        cases dat
    · intro z
      obtain ⟨o2, es, ep, e2, d2, _⟩ := names
      rw [z] at e2
      rw [none_at e2] at d2
      cases d2
  have e0 : Env0 P w K mg (hidT s.heap H) callerA [] s H := ⟨rfl, md, fun _ _ e => of_hidT e, Nat.le_of_eq (hidT_size _ _), trivial, fun _ hm => absurd hm (List.not_mem_nil), ok, .of_eq gens⟩
  refine codeAny_mono ((F _ KH (names_see names) based).goes callerA [] s H ⟨[.ref a], []⟩ [.ref a] [.ref a] _ _ rfl room e0 (binds s (.ref a)) (.cons rfl .nil) want) fun r t got => ?_
  match r, got with
  | .ok (.ret u), got =>
    obtain ⟨v, H2, os, bare, un, ok2, rel, is_true⟩ := got
    obtain rfl : v = V.bl true := is_true
    obtain rfl : u = Value.bool true := rel
    have stays : ∀ b o, (∀ p ∈ tt, p.2 ≠ b) → s.heap.get? b = some o → t.heap.get? b = some o := fun b o away e => by
      cases q : H b with
      | none => exact un.keep b o e q (fun z => absurd z List.not_mem_nil) (by simp)
      | some u =>
        rcases here b u q with ⟨_, ob, xs, rfl⟩ | ⟨p, hp, z⟩
        · obtain ⟨e1, _⟩ := ok b _ q
          obtain ⟨e2, _⟩ := ok2 b _ (un.frzs b ob _ q)
          rw [e] at e1
          cases e1
          exact e2
        · exact absurd z (away p hp)
    have more : ∀ p ∈ tt, ∃ us : Array Value, t.heap.get? p.2 = some { cls := .none, data := .fields us } := fun p hp => by
      obtain ⟨us, z⟩ := un.tbls p.2 #[] (tabs p hp)
      exact ⟨_, ok2 p.2 _ z⟩
    refine ⟨rfl, ⟨fun b o e => ?_, fun b o e => ?_⟩, os, bare⟩
    · by_cases q : ∃ p ∈ tt, p.2 = b
      · obtain ⟨p, hp, rfl⟩ := q
        obtain ⟨us, eu⟩ := more p hp
        have e1 := tb.empty p hp
        rw [e] at e1
        cases e1
        exact .inr (.inl ⟨((tb.code p hp).tab (tb.empty p hp)).isCodeTable, rfl, #[], us, rfl, by rw [Array.empty_append]; exact eu⟩)
      · exact .inl (stays b o (fun p hp z => q ⟨p, hp, z⟩) e)
    · by_cases q : ∃ p ∈ tt, p.2 = b
      · obtain ⟨p, hp, rfl⟩ := q
        obtain ⟨us, eu⟩ := more p hp
        exact ⟨_, eu⟩
      · exact ⟨o, stays b o (fun p hp z => q ⟨p, hp, z⟩) e⟩
open Classical in
theorem lawGT_call (tb : Tabbing K mg s.heap tt) (KX : K.In s.heap) (names : s.heap.Ns mainGlobals mg) (bnames : s.heap.Ns builtinsNs mb) (boot : ∀ x : Str, x ≠ "__name__" → mb x = bootBuiltins x) (lim : s.heap.NoLimit) (gens : s.gens = #[])
    (script : s.heap.get? a = some (ListO vs)) (nums : IntsAre vs ns) (few : ns.length ≤ sizeLine) (room : Room k callerA) (F : ∀ base : Heap, K.In base → base.Ns mainGlobals mg → (∀ p ∈ tt, LamX.TabB base mg p.1 p.2) → FnG P w K mg base k fa fd [x] sp)
    (binds : ∀ (s : Shared) (u : Value), BindsTo s fd ⟨[u], []⟩ [(x, u)]) (want : ∀ H : Hp, (∀ p ∈ tt, H p.2 = some (.tbl #[])) → SqL K H a (ns.map V.int) → sp [.ref a] H (fun v _ => v = .bl true) C8.E0) :
    codeAny (model P w) callerA (.call (.ref fa) ⟨[.ref a], []⟩) (fun r s' => Done s s' r) s := by
  have rel := vals_ints nums
  have isT : ∀ b, (∃ p ∈ tt, p.2 = b) → s.heap.get? b = some NoCode := fun b ⟨p, hp, e⟩ => e ▸ tb.empty p hp
  let T : Hp := fun b => if ∃ p ∈ tt, p.2 = b then some (.tbl #[]) else none
  have T_in : ∀ {b u}, T b = some u → (∃ p ∈ tt, p.2 = b) ∧ u = .tbl #[] := fun {b u} z => by
    by_cases q : ∃ p ∈ tt, p.2 = b
    · exact ⟨q, (Option.some.inj ((if_pos q).symm.trans z)).symm⟩
    · cases (if_neg q).symm.trans z
  have T_at : ∀ p ∈ tt, T p.2 = some (.tbl #[]) := fun p hp => if_pos ⟨p, hp, rfl⟩
  have a_off : ¬ ∃ p ∈ tt, p.2 = a := fun q => by
    have z := isT a q
    rw [script] at z
    have z2 : Data.seq vs.toArray _ = Data.fields #[] := congrArg Obj.data (Option.some.inj z)
    cases z2
  have T_ok : HOk P w T s.heap := fun b u z => by
    obtain ⟨q, rfl⟩ := T_in z
    exact isT b q
  cases own : K.lookup a with
  | some o =>
    have e := KX a o own
    rw [script] at e
    cases e
    exact lawGT_at tb KX names bnames boot lim gens script room F binds (want T T_at (.inr ⟨_, vs.toArray, _, own, rfl, rfl, rfl, by rw [List.size_toArray, nums.length]; exact few, by simpa using rel⟩)) T_ok T_at (fun b u z => .inr (T_in z).1)
      fun z => absurd (if_neg a_off : T a = none) z
  | none =>
    let one : HO := .frz (ListO vs) (.lst (ns.map V.int))
    let H : Hp := fun b => if b = a then some one else T b
    have at_a : H a = some one := if_pos rfl
    have off : ∀ {b}, b ≠ a → H b = T b := fun n => if_neg n
    refine lawGT_at tb KX names bnames boot lim gens script room F binds (want H (fun p hp => (off fun z => a_off ⟨p, hp, z⟩).trans (T_at p hp)) (.inl (.inr ⟨_, at_a⟩))) (fun b u z => ?_) (fun p hp => (off fun z => a_off ⟨p, hp, z⟩).trans (T_at p hp)) (fun b u z => ?_) fun _ => own
    · by_cases e : b = a
      · subst e
        rw [at_a] at z
        cases z
        exact ⟨script, by rw [List.length_map]; exact few, vs, _, rel, script⟩
      · rw [off e] at z
        obtain ⟨q, rfl⟩ := T_in z
        exact isT b q
    · by_cases e : b = a
      · subst e
        rw [at_a] at z
        exact .inl ⟨rfl, _, _, (Option.some.inj z).symm⟩
      · rw [off e] at z
        exact .inr (T_in z).1
end
theorem walkGT {l : PySem.W.OpenLaw} {n k : Nat} {q : Program} {loose : List Str} {XP : (Str → Option Value) → Heap → Prop} {YP : World → Heap → Prop} {d : DefRec} {K : Params → PySem.W.Frag} {sp : PySem.W.Frag → List (Addr × Addr) → Sp} {x : Str} (hn : l.most = some n) (hn2 : n ≤ sizeLine)
    (hdf : d.params.defaults = []) (room : Room k callerA) (hY : ∀ (w : World) (h : Heap), YP w h → (K w.params).In h)
    (F : ∀ (w : World) (mg : Str → Option Value) (fa : Addr) (h : Heap), (K w.params).In h → h.Ns mainGlobals mg → mg d.name = some (.ref fa) →
      ∃ (fd : FuncData) (tt : List (Addr × Addr)), (∀ p ∈ tt, (∃ (nm : Str) (e : DefRec), PySem.W.tabIn (K w.params) nm = some p ∧ (recsOf q).find? (fun e => e.name == nm) = some e) ∧ (K w.params).lookup p.2 = none) ∧
        (∀ (s : Shared) (u : Value), BindsTo s fd ⟨[u], []⟩ [(x, u)]) ∧ ∀ base : Heap, (K w.params).In base → base.Ns mainGlobals mg → (∀ p ∈ tt, LamX.TabB base mg p.1 p.2) → FnG l.prog w (K w.params) mg base k fa fd [x] (sp (K w.params) tt))
    (want : ∀ (K : PySem.W.Frag) (tt : List (Addr × Addr)) (H : Hp) (a : Addr) (ns : List Int), ns.length ≤ n → (∀ p ∈ tt, H p.2 = some (.tbl #[])) → SqL K H a (ns.map V.int) → sp K tt [.ref a] H (fun v _ => v = .bl true) C8.E0) : PySem.W.WalkO q loose XP YP l.row.toRowW d [] (fun f vs => PySem.call f vs) := by
  refine Att.attach_call hn hdf ?_
  intro w s0 s1 mg mb fa o pm cd doc a vs ns G Y _ _ _ named list_ nums few gens
  have KX := hY w _ Y
  obtain ⟨fd, tt, ht, bd, F1⟩ := F w mg fa _ KX G.T.g named
  have tb : Tabbing (K w.params) mg s1.heap tt := ⟨fun p hp => let ⟨⟨nm, e, t1, r1⟩, _⟩ := ht p hp; (PySem.W.tab_of G.T KX r1 t1).2, fun p hp => (ht p hp).2, fun p hp => let ⟨⟨nm, e, t1, r1⟩, _⟩ := ht p hp; (PySem.W.tab_of G.T KX r1 t1).1, G.T.bmain⟩
  exact lawGT_call tb KX G.T.g G.T.b G.T.builtins G.T.nolimit gens list_ nums (Nat.le_trans few hn2) room F1 bd fun H ht hs => want _ _ H a ns few ht hs
end LX
set_option maxHeartbeats 8000000
namespace Toy
open PySem L2 C8 SX LX
theorem no_names {K : PySem.W.Frag} {N : Addr} {od : Option Addr} {n : Nat} {sl : Array (Option Value)} {u0 u1 u2 u3 u4 u5 u6 u7 u8 u9 : Tok}
    (h : K.lookup N = some ⟨.type "tuple", od, .seq #[.str (Str.ofString "back") u0, .str (Str.ofString "is") u1, .str (Str.ofString "not") u2, .str (Str.ofString "and") u3, .str (Str.ofString "or") u4, .str (Str.ofString "if") u5, .str (Str.ofString "then") u6, .str (Str.ofString "for") u7, .str (Str.ofString "all") u8, .str (Str.ofString "some") u9] n, sl⟩) (H : Hp) : SqT K H N (txs no10) := by
  refine .inr ⟨_, _, _, h, rfl, rfl, (by show 10 ≤ sizeLine; decide), ?_⟩
  have e0 : (Str.ofString "back") = S [98, 97, 99, 107] := by decide +kernel
  have e1 : (Str.ofString "is") = S [105, 115] := by decide +kernel
  have e2 : (Str.ofString "not") = S [110, 111, 116] := by decide +kernel
  have e3 : (Str.ofString "and") = S [97, 110, 100] := by decide +kernel
  have e4 : (Str.ofString "or") = S [111, 114] := by decide +kernel
  have e5 : (Str.ofString "if") = S [105, 102] := by decide +kernel
  have e6 : (Str.ofString "then") = S [116, 104, 101, 110] := by decide +kernel
  have e7 : (Str.ofString "for") = S [102, 111, 114] := by decide +kernel
  have e8 : (Str.ofString "all") = S [97, 108, 108] := by decide +kernel
  have e9 : (Str.ofString "some") = S [115, 111, 109, 101] := by decide +kernel
  rw [e0, e1, e2, e3, e4, e5, e6, e7, e8, e9]
  exact .cons ⟨_, rfl⟩ (.cons ⟨_, rfl⟩ (.cons ⟨_, rfl⟩ (.cons ⟨_, rfl⟩ (.cons ⟨_, rfl⟩ (.cons ⟨_, rfl⟩ (.cons ⟨_, rfl⟩ (.cons ⟨_, rfl⟩ (.cons ⟨_, rfl⟩ (.cons ⟨_, rfl⟩ .nil)))))))))
def ttOf (tt : List (Addr × Addr)) : List NdefX.NTab := tt.map fun p => (p.2, nmLr)
theorem all_mk {l : PySem.W.OpenLaw} {qp : Program} {w : World} {K : PySem.W.Frag} {h : Heap} {mg : Str → Option Value} {fa : Addr} {f_take f_pick f_mixed f_signs f_drawn f_box f_isseq f_isrow f_isletters f_issigns f_isname f_ismarks f_istargets f_issteps f_m_num f_table f_cols f_init f_ismark f_until f_least f_islot f_chlot f_flags f_ways f_ahead f_lfrom f_numd f_rowof f_numof f_lrow f_many f_rowat f_place f_longest f_nums f_lrfrom f_made f_led f_rows f_lot f_lmany f_lgreat f_missed f_law C_Reader C_InvalidLot C_InvalidRow C_RowError : Addr} (X : K.In h) (G : h.Ns mainGlobals mg) (hfa : mg "law" = some (.ref fa))
    {od_take an_take : Option Addr} {sl_take : Array (Option Value)} {oc_take kV_take dc_take pm_take cd_take ct_take : Value}
    {od_pick an_pick : Option Addr} {sl_pick : Array (Option Value)} {oc_pick kV_pick dc_pick pm_pick cd_pick ct_pick : Value}
    {od_mixed an_mixed : Option Addr} {sl_mixed : Array (Option Value)} {oc_mixed kV_mixed dc_mixed pm_mixed cd_mixed ct_mixed : Value}
    {od_signs an_signs : Option Addr} {sl_signs : Array (Option Value)} {oc_signs kV_signs dc_signs pm_signs cd_signs ct_signs : Value}
    {od_drawn an_drawn : Option Addr} {sl_drawn : Array (Option Value)} {oc_drawn kV_drawn dc_drawn pm_drawn cd_drawn ct_drawn : Value}
    {od_box an_box : Option Addr} {sl_box : Array (Option Value)} {oc_box kV_box dc_box pm_box cd_box ct_box : Value}
    {od_isseq an_isseq : Option Addr} {sl_isseq : Array (Option Value)} {oc_isseq kV_isseq dc_isseq pm_isseq cd_isseq ct_isseq : Value}
    {od_isrow an_isrow : Option Addr} {sl_isrow : Array (Option Value)} {oc_isrow kV_isrow dc_isrow pm_isrow cd_isrow ct_isrow : Value}
    {od_isletters an_isletters : Option Addr} {sl_isletters : Array (Option Value)} {oc_isletters kV_isletters dc_isletters pm_isletters cd_isletters ct_isletters : Value}
    {od_issigns an_issigns : Option Addr} {sl_issigns : Array (Option Value)} {oc_issigns kV_issigns dc_issigns pm_issigns cd_issigns ct_issigns : Value}
    {od_isname an_isname : Option Addr} {sl_isname : Array (Option Value)} {oc_isname kV_isname dc_isname pm_isname cd_isname ct_isname : Value}
    {od_ismarks an_ismarks : Option Addr} {sl_ismarks : Array (Option Value)} {oc_ismarks kV_ismarks dc_ismarks pm_ismarks cd_ismarks ct_ismarks : Value}
    {od_istargets an_istargets : Option Addr} {sl_istargets : Array (Option Value)} {oc_istargets kV_istargets dc_istargets pm_istargets cd_istargets ct_istargets : Value}
    {od_issteps an_issteps : Option Addr} {sl_issteps : Array (Option Value)} {oc_issteps kV_issteps dc_issteps pm_issteps cd_issteps ct_issteps : Value}
    {od_m_num an_m_num : Option Addr} {sl_m_num : Array (Option Value)} {oc_m_num kV_m_num dc_m_num pm_m_num cd_m_num ct_m_num : Value}
    {od_table an_table : Option Addr} {sl_table : Array (Option Value)} {oc_table kV_table dc_table pm_table cd_table ct_table : Value}
    {od_cols an_cols : Option Addr} {sl_cols : Array (Option Value)} {oc_cols kV_cols dc_cols pm_cols cd_cols ct_cols : Value}
    {od_init an_init : Option Addr} {sl_init : Array (Option Value)} {oc_init kV_init dc_init pm_init cd_init ct_init : Value}
    {od_ismark an_ismark : Option Addr} {sl_ismark : Array (Option Value)} {oc_ismark kV_ismark dc_ismark pm_ismark cd_ismark ct_ismark : Value}
    {od_until an_until : Option Addr} {sl_until : Array (Option Value)} {oc_until kV_until dc_until pm_until cd_until ct_until : Value}
    {od_least an_least : Option Addr} {sl_least : Array (Option Value)} {oc_least kV_least dc_least pm_least cd_least ct_least : Value}
    {od_islot an_islot : Option Addr} {sl_islot : Array (Option Value)} {oc_islot kV_islot dc_islot pm_islot cd_islot ct_islot : Value}
    {od_chlot an_chlot : Option Addr} {sl_chlot : Array (Option Value)} {oc_chlot kV_chlot dc_chlot pm_chlot cd_chlot ct_chlot : Value}
    {od_flags an_flags : Option Addr} {sl_flags : Array (Option Value)} {oc_flags kV_flags dc_flags pm_flags cd_flags ct_flags : Value}
    {od_ways an_ways : Option Addr} {sl_ways : Array (Option Value)} {oc_ways kV_ways dc_ways pm_ways cd_ways ct_ways : Value}
    {od_ahead an_ahead : Option Addr} {sl_ahead : Array (Option Value)} {oc_ahead kV_ahead dc_ahead pm_ahead cd_ahead ct_ahead : Value}
    {od_lfrom an_lfrom : Option Addr} {sl_lfrom : Array (Option Value)} {oc_lfrom kV_lfrom dc_lfrom pm_lfrom cd_lfrom ct_lfrom : Value}
    {od_numd an_numd : Option Addr} {sl_numd : Array (Option Value)} {oc_numd kV_numd dc_numd pm_numd cd_numd ct_numd : Value}
    {od_rowof an_rowof : Option Addr} {sl_rowof : Array (Option Value)} {oc_rowof kV_rowof dc_rowof pm_rowof cd_rowof ct_rowof : Value}
    {od_numof an_numof : Option Addr} {sl_numof : Array (Option Value)} {oc_numof kV_numof dc_numof pm_numof cd_numof ct_numof : Value}
    {od_lrow an_lrow : Option Addr} {sl_lrow : Array (Option Value)} {oc_lrow kV_lrow dc_lrow pm_lrow cd_lrow ct_lrow : Value}
    {od_many an_many : Option Addr} {sl_many : Array (Option Value)} {oc_many kV_many dc_many pm_many cd_many ct_many : Value}
    {od_rowat an_rowat : Option Addr} {sl_rowat : Array (Option Value)} {oc_rowat kV_rowat dc_rowat pm_rowat cd_rowat ct_rowat : Value}
    {od_place an_place : Option Addr} {sl_place : Array (Option Value)} {oc_place kV_place dc_place pm_place cd_place ct_place : Value}
    {od_longest an_longest : Option Addr} {sl_longest : Array (Option Value)} {oc_longest kV_longest dc_longest pm_longest cd_longest ct_longest : Value}
    {od_nums an_nums : Option Addr} {sl_nums : Array (Option Value)} {oc_nums kV_nums dc_nums pm_nums cd_nums ct_nums : Value}
    {od_lrfrom an_lrfrom : Option Addr} {sl_lrfrom : Array (Option Value)} {oc_lrfrom kV_lrfrom dc_lrfrom pm_lrfrom ct_lrfrom : Value}
    {od_made an_made : Option Addr} {sl_made : Array (Option Value)} {oc_made kV_made dc_made pm_made cd_made ct_made : Value}
    {od_led an_led : Option Addr} {sl_led : Array (Option Value)} {oc_led kV_led dc_led pm_led cd_led ct_led : Value}
    {od_rows an_rows : Option Addr} {sl_rows : Array (Option Value)} {oc_rows kV_rows dc_rows pm_rows cd_rows ct_rows : Value}
    {od_lot an_lot : Option Addr} {sl_lot : Array (Option Value)} {oc_lot kV_lot dc_lot pm_lot cd_lot ct_lot : Value}
    {od_lmany an_lmany : Option Addr} {sl_lmany : Array (Option Value)} {oc_lmany kV_lmany dc_lmany pm_lmany cd_lmany ct_lmany : Value}
    {od_lgreat an_lgreat : Option Addr} {sl_lgreat : Array (Option Value)} {oc_lgreat kV_lgreat dc_lgreat pm_lgreat cd_lgreat ct_lgreat : Value}
    {od_missed an_missed : Option Addr} {sl_missed : Array (Option Value)} {oc_missed kV_missed dc_missed pm_missed cd_missed ct_missed : Value}
    {od_law an_law : Option Addr} {sl_law : Array (Option Value)} {oc_law kV_law dc_law pm_law cd_law ct_law : Value}
    {N_nn : Addr} {od_nn : Option Addr} {n_nn : Nat} {sl_nn : Array (Option Value)} {u0_nn u1_nn u2_nn u3_nn u4_nn u5_nn u6_nn u7_nn u8_nn u9_nn : Tok}
    (tg_nn : PySem.W.nsIn K mainGlobals "_NO_NAMES" = some (some (.ref N_nn)))
    (tl_nn : K.lookup N_nn = some ⟨.type "tuple", od_nn, .seq #[.str (Str.ofString "back") u0_nn, .str (Str.ofString "is") u1_nn, .str (Str.ofString "not") u2_nn, .str (Str.ofString "and") u3_nn, .str (Str.ofString "or") u4_nn, .str (Str.ofString "if") u5_nn, .str (Str.ofString "then") u6_nn, .str (Str.ofString "for") u7_nn, .str (Str.ofString "all") u8_nn, .str (Str.ofString "some") u9_nn] n_nn, sl_nn⟩)
    {cc_lrfrom PP_lrfrom : Addr} {oe_lrfrom : Option Addr} {oc2_lrfrom : Value} {vs_lrfrom : Array Value} {sl2_lrfrom : Array (Option Value)}
    (tr_lrfrom : ∃ e, (PyProof.Rows.recsOf qp).find? (fun e => e.name == ("_least_row_from" : Str)) = some e)
    {tk_az : Tok}
    (q_az : PySem.W.nsIn K mainGlobals "_LETTERS" = some (some (.str (S az) tk_az)))
    (g_Reader : PySem.W.nsIn K mainGlobals "Reader" = some (some (.ref C_Reader)))
    (pg_Reader : PySem.W.plainGet K C_Reader Str.empty = true)
    (hd_Reader : PySem.W.hasDictIn K C_Reader = true)
    (po_Reader : PySem.W.plainOver K C_Reader = true)
    (sa_Reader : PySem.W.findIn K (.ref C_Reader) "__setattr__" = some (some (.builtin "object.__setattr__")))
    (kc_Reader : PySem.W.keepIn K (.ref C_Reader) = true)
    (n_Reader_signs : PySem.W.findIn K (.ref C_Reader) "signs" = some none)
    (n_Reader_marks : PySem.W.findIn K (.ref C_Reader) "marks" = some none)
    (n_Reader_first : PySem.W.findIn K (.ref C_Reader) "first" = some none)
    (n_Reader_steps : PySem.W.findIn K (.ref C_Reader) "steps" = some none)
    (n_Reader__numbers : PySem.W.findIn K (.ref C_Reader) "_numbers" = some none)
    (n_Reader__leads : PySem.W.findIn K (.ref C_Reader) "_leads" = some none)
    (n_Reader__columns : PySem.W.findIn K (.ref C_Reader) "_columns" = some none)
    (mk_Reader : PySem.W.makesIn K C_Reader = true)
    (ha_Reader : PySem.W.findIn K (.ref C_Reader) "__class__" = some (some (.builtin "object.__class__")))
    (hn_Reader : PySem.W.specialIn K (.builtin "object.__class__") "__get__" = some (some (.builtin "getset_descriptor.__get__")))
    (tk_Reader : PySem.W.takesIn K (.builtin "object.__class__") = some true)
    (hm_Reader : PySem.W.mroIn K C_Reader (.type "object") = some true)
    (xg_InvalidLot : PySem.W.nsIn K mainGlobals "InvalidLot" = some (some (.ref C_InvalidLot)))
    (xq_InvalidLot : PySem.W.excInitIn K C_InvalidLot [.type "ValueError", .type "Exception", .type "BaseException", .type "object"] "ValueError.__new__" = true)
    (xd_InvalidLot : PySem.W.hasDictIn K C_InvalidLot = true)
    (xs_InvalidLot : PySem.W.findIn K (.ref C_InvalidLot) "__setattr__" = some (some (.builtin "object.__setattr__")))
    (xa_InvalidLot : PySem.W.findIn K (.ref C_InvalidLot) "__getattribute__" = some (some (.builtin "BaseException.__getattribute__")))
    (xn_InvalidLot : PySem.W.findIn K (.ref C_InvalidLot) "__getattr__" = some none)
    (xb_InvalidLot : PySem.W.subIn K (.ref C_InvalidLot) (.type "BaseException") = some true)
    (xt_InvalidLot : PySem.W.typeIn K (.ref C_InvalidLot) = some (.type "type"))
    (xk_InvalidLot : PySem.W.keepIn K (.ref C_InvalidLot) = true)
    (xc_InvalidLot : PySem.W.findIn K (.ref C_InvalidLot) "__class__" = some (some (.builtin "object.__class__")))
    (xm_InvalidLot : PySem.W.mroIn K C_InvalidLot (.type "object") = some true)
    (xu_InvalidLot : PySem.W.subIn K (.ref C_InvalidLot) (.ref C_InvalidLot) = some true)
    (xg_InvalidRow : PySem.W.nsIn K mainGlobals "InvalidRow" = some (some (.ref C_InvalidRow)))
    (xq_InvalidRow : PySem.W.excInitIn K C_InvalidRow [.type "ValueError", .type "Exception", .type "BaseException", .type "object"] "ValueError.__new__" = true)
    (xd_InvalidRow : PySem.W.hasDictIn K C_InvalidRow = true)
    (xs_InvalidRow : PySem.W.findIn K (.ref C_InvalidRow) "__setattr__" = some (some (.builtin "object.__setattr__")))
    (xa_InvalidRow : PySem.W.findIn K (.ref C_InvalidRow) "__getattribute__" = some (some (.builtin "BaseException.__getattribute__")))
    (xn_InvalidRow : PySem.W.findIn K (.ref C_InvalidRow) "__getattr__" = some none)
    (xb_InvalidRow : PySem.W.subIn K (.ref C_InvalidRow) (.type "BaseException") = some true)
    (xt_InvalidRow : PySem.W.typeIn K (.ref C_InvalidRow) = some (.type "type"))
    (xk_InvalidRow : PySem.W.keepIn K (.ref C_InvalidRow) = true)
    (xc_InvalidRow : PySem.W.findIn K (.ref C_InvalidRow) "__class__" = some (some (.builtin "object.__class__")))
    (xm_InvalidRow : PySem.W.mroIn K C_InvalidRow (.type "object") = some true)
    (xu_InvalidRow : PySem.W.subIn K (.ref C_InvalidRow) (.ref C_InvalidRow) = some true)
    (xe_InvalidLot : PySem.W.excIn K C_InvalidLot [.type "ValueError", .type "Exception", .type "BaseException", .type "object"] "ValueError.__new__" = true)
    (xe_InvalidRow : PySem.W.excIn K C_InvalidRow [.type "ValueError", .type "Exception", .type "BaseException", .type "object"] "ValueError.__new__" = true)
    (xg_RowError : PySem.W.nsIn K mainGlobals "RowError" = some (some (.ref C_RowError)))
    (xk_rr : PySem.W.kitOne K (.ref C_InvalidRow) (.ref C_RowError) = some true)
    (xk_rs : PySem.W.kitOne K (.ref C_Reader) (.type "str") = some false)
    (a_take : PySem.W.nsIn K mainGlobals "_law_take" = some (some (.ref f_take)))
    (l_take : K.lookup f_take = some ⟨oc_take, od_take, .func (PySem.W.fnOf "_law_take" "_law_take" (C8.fnArgs s_take) (C8.fnBody s_take) (C8.fnScope s_take) .none kV_take dc_take pm_take an_take cd_take ct_take), sl_take⟩)
    (c_take : PySem.W.codeIn K cd_take "_law_take" = true)
    (k_take : PySem.W.keepIn K (.ref f_take) = true)
    (a_pick : PySem.W.nsIn K mainGlobals "_law_pick" = some (some (.ref f_pick)))
    (l_pick : K.lookup f_pick = some ⟨oc_pick, od_pick, .func (PySem.W.fnOf "_law_pick" "_law_pick" (C8.fnArgs s_pick) (C8.fnBody s_pick) (C8.fnScope s_pick) .none kV_pick dc_pick pm_pick an_pick cd_pick ct_pick), sl_pick⟩)
    (c_pick : PySem.W.codeIn K cd_pick "_law_pick" = true)
    (k_pick : PySem.W.keepIn K (.ref f_pick) = true)
    (a_mixed : PySem.W.nsIn K mainGlobals "_law_mixed" = some (some (.ref f_mixed)))
    (l_mixed : K.lookup f_mixed = some ⟨oc_mixed, od_mixed, .func (PySem.W.fnOf "_law_mixed" "_law_mixed" (C8.fnArgs s_mixed) (C8.fnBody s_mixed) (C8.fnScope s_mixed) .none kV_mixed dc_mixed pm_mixed an_mixed cd_mixed ct_mixed), sl_mixed⟩)
    (c_mixed : PySem.W.codeIn K cd_mixed "_law_mixed" = true)
    (k_mixed : PySem.W.keepIn K (.ref f_mixed) = true)
    (a_signs : PySem.W.nsIn K mainGlobals "_law_signs" = some (some (.ref f_signs)))
    (l_signs : K.lookup f_signs = some ⟨oc_signs, od_signs, .func (PySem.W.fnOf "_law_signs" "_law_signs" (C8.fnArgs s_signs) (C8.fnBody s_signs) (C8.fnScope s_signs) .none kV_signs dc_signs pm_signs an_signs cd_signs ct_signs), sl_signs⟩)
    (c_signs : PySem.W.codeIn K cd_signs "_law_signs" = true)
    (k_signs : PySem.W.keepIn K (.ref f_signs) = true)
    (a_drawn : PySem.W.nsIn K mainGlobals "_law_drawn" = some (some (.ref f_drawn)))
    (l_drawn : K.lookup f_drawn = some ⟨oc_drawn, od_drawn, .func (PySem.W.fnOf "_law_drawn" "_law_drawn" (C8.fnArgs s_drawn) (C8.fnBody s_drawn) (C8.fnScope s_drawn) .none kV_drawn dc_drawn pm_drawn an_drawn cd_drawn ct_drawn), sl_drawn⟩)
    (c_drawn : PySem.W.codeIn K cd_drawn "_law_drawn" = true)
    (k_drawn : PySem.W.keepIn K (.ref f_drawn) = true)
    (a_box : PySem.W.nsIn K mainGlobals "_law_box" = some (some (.ref f_box)))
    (l_box : K.lookup f_box = some ⟨oc_box, od_box, .func (PySem.W.fnOf "_law_box" "_law_box" (C8.fnArgs s_box) (C8.fnBody s_box) (C8.fnScope s_box) .none kV_box dc_box pm_box an_box cd_box ct_box), sl_box⟩)
    (c_box : PySem.W.codeIn K cd_box "_law_box" = true)
    (k_box : PySem.W.keepIn K (.ref f_box) = true)
    (a_isseq : PySem.W.nsIn K mainGlobals "is_sequence" = some (some (.ref f_isseq)))
    (l_isseq : K.lookup f_isseq = some ⟨oc_isseq, od_isseq, .func (PySem.W.fnOf "is_sequence" "is_sequence" (C8.fnArgs s_isseq) (C8.fnBody s_isseq) (C8.fnScope s_isseq) .none kV_isseq dc_isseq pm_isseq an_isseq cd_isseq ct_isseq), sl_isseq⟩)
    (c_isseq : PySem.W.codeIn K cd_isseq "is_sequence" = true)
    (k_isseq : PySem.W.keepIn K (.ref f_isseq) = true)
    (a_isrow : PySem.W.nsIn K mainGlobals "is_row" = some (some (.ref f_isrow)))
    (l_isrow : K.lookup f_isrow = some ⟨oc_isrow, od_isrow, .func (PySem.W.fnOf "is_row" "is_row" (C8.fnArgs s_isrow) (C8.fnBody s_isrow) (C8.fnScope s_isrow) .none kV_isrow dc_isrow pm_isrow an_isrow cd_isrow ct_isrow), sl_isrow⟩)
    (c_isrow : PySem.W.codeIn K cd_isrow "is_row" = true)
    (k_isrow : PySem.W.keepIn K (.ref f_isrow) = true)
    (a_isletters : PySem.W.nsIn K mainGlobals "is_letters" = some (some (.ref f_isletters)))
    (l_isletters : K.lookup f_isletters = some ⟨oc_isletters, od_isletters, .func (PySem.W.fnOf "is_letters" "is_letters" (C8.fnArgs s_isletters) (C8.fnBody s_isletters) (C8.fnScope s_isletters) .none kV_isletters dc_isletters pm_isletters an_isletters cd_isletters ct_isletters), sl_isletters⟩)
    (c_isletters : PySem.W.codeIn K cd_isletters "is_letters" = true)
    (k_isletters : PySem.W.keepIn K (.ref f_isletters) = true)
    (a_issigns : PySem.W.nsIn K mainGlobals "is_signs" = some (some (.ref f_issigns)))
    (l_issigns : K.lookup f_issigns = some ⟨oc_issigns, od_issigns, .func (PySem.W.fnOf "is_signs" "is_signs" (C8.fnArgs s_issigns) (C8.fnBody s_issigns) (C8.fnScope s_issigns) .none kV_issigns dc_issigns pm_issigns an_issigns cd_issigns ct_issigns), sl_issigns⟩)
    (c_issigns : PySem.W.codeIn K cd_issigns "is_signs" = true)
    (k_issigns : PySem.W.keepIn K (.ref f_issigns) = true)
    (a_isname : PySem.W.nsIn K mainGlobals "is_name" = some (some (.ref f_isname)))
    (l_isname : K.lookup f_isname = some ⟨oc_isname, od_isname, .func (PySem.W.fnOf "is_name" "is_name" (C8.fnArgs s_isname) (C8.fnBody s_isname) (C8.fnScope s_isname) .none kV_isname dc_isname pm_isname an_isname cd_isname ct_isname), sl_isname⟩)
    (c_isname : PySem.W.codeIn K cd_isname "is_name" = true)
    (k_isname : PySem.W.keepIn K (.ref f_isname) = true)
    (a_ismarks : PySem.W.nsIn K mainGlobals "_is_marks" = some (some (.ref f_ismarks)))
    (l_ismarks : K.lookup f_ismarks = some ⟨oc_ismarks, od_ismarks, .func (PySem.W.fnOf "_is_marks" "_is_marks" (C8.fnArgs s_ismarks) (C8.fnBody s_ismarks) (C8.fnScope s_ismarks) .none kV_ismarks dc_ismarks pm_ismarks an_ismarks cd_ismarks ct_ismarks), sl_ismarks⟩)
    (c_ismarks : PySem.W.codeIn K cd_ismarks "_is_marks" = true)
    (k_ismarks : PySem.W.keepIn K (.ref f_ismarks) = true)
    (a_istargets : PySem.W.nsIn K mainGlobals "_is_targets" = some (some (.ref f_istargets)))
    (l_istargets : K.lookup f_istargets = some ⟨oc_istargets, od_istargets, .func (PySem.W.fnOf "_is_targets" "_is_targets" (C8.fnArgs s_istargets) (C8.fnBody s_istargets) (C8.fnScope s_istargets) .none kV_istargets dc_istargets pm_istargets an_istargets cd_istargets ct_istargets), sl_istargets⟩)
    (c_istargets : PySem.W.codeIn K cd_istargets "_is_targets" = true)
    (k_istargets : PySem.W.keepIn K (.ref f_istargets) = true)
    (a_issteps : PySem.W.nsIn K mainGlobals "_is_steps" = some (some (.ref f_issteps)))
    (l_issteps : K.lookup f_issteps = some ⟨oc_issteps, od_issteps, .func (PySem.W.fnOf "_is_steps" "_is_steps" (C8.fnArgs s_issteps) (C8.fnBody s_issteps) (C8.fnScope s_issteps) .none kV_issteps dc_issteps pm_issteps an_issteps cd_issteps ct_issteps), sl_issteps⟩)
    (c_issteps : PySem.W.codeIn K cd_issteps "_is_steps" = true)
    (k_issteps : PySem.W.keepIn K (.ref f_issteps) = true)
    (a_m_num : PySem.W.findIn K (.ref C_Reader) "number_of" = some (some (.ref f_m_num)))
    (i_m_num : PySem.W.isFn K (.ref f_m_num) = true)
    (l_m_num : K.lookup f_m_num = some ⟨oc_m_num, od_m_num, .func (PySem.W.fnOf "number_of" "Reader.number_of" (C8.fnArgs s_m_num) (C8.fnBody s_m_num) (C8.fnScope s_m_num) .none kV_m_num dc_m_num pm_m_num an_m_num cd_m_num ct_m_num), sl_m_num⟩)
    (c_m_num : PySem.W.codeIn K cd_m_num "Reader.number_of" = true)
    (k_m_num : PySem.W.keepIn K (.ref f_m_num) = true)
    (a_table : PySem.W.nsIn K mainGlobals "table_of" = some (some (.ref f_table)))
    (l_table : K.lookup f_table = some ⟨oc_table, od_table, .func (PySem.W.fnOf "table_of" "table_of" (C8.fnArgs s_table) (C8.fnBody s_table) (C8.fnScope s_table) .none kV_table dc_table pm_table an_table cd_table ct_table), sl_table⟩)
    (c_table : PySem.W.codeIn K cd_table "table_of" = true)
    (k_table : PySem.W.keepIn K (.ref f_table) = true)
    (a_cols : PySem.W.nsIn K mainGlobals "columns_of" = some (some (.ref f_cols)))
    (l_cols : K.lookup f_cols = some ⟨oc_cols, od_cols, .func (PySem.W.fnOf "columns_of" "columns_of" (C8.fnArgs s_cols) (C8.fnBody s_cols) (C8.fnScope s_cols) .none kV_cols dc_cols pm_cols an_cols cd_cols ct_cols), sl_cols⟩)
    (c_cols : PySem.W.codeIn K cd_cols "columns_of" = true)
    (k_cols : PySem.W.keepIn K (.ref f_cols) = true)
    (a_init : PySem.W.findIn K (.ref C_Reader) "__init__" = some (some (.ref f_init)))
    (i_init : PySem.W.isFn K (.ref f_init) = true)
    (l_init : K.lookup f_init = some ⟨oc_init, od_init, .func (PySem.W.fnOf "__init__" "Reader.__init__" (C8.fnArgs s_init) (C8.fnBody s_init) (C8.fnScope s_init) .none kV_init dc_init pm_init an_init cd_init ct_init), sl_init⟩)
    (c_init : PySem.W.codeIn K cd_init "Reader.__init__" = true)
    (k_init : PySem.W.keepIn K (.ref f_init) = true)
    (a_ismark : PySem.W.nsIn K mainGlobals "is_mark" = some (some (.ref f_ismark)))
    (l_ismark : K.lookup f_ismark = some ⟨oc_ismark, od_ismark, .func (PySem.W.fnOf "is_mark" "is_mark" (C8.fnArgs s_ismark) (C8.fnBody s_ismark) (C8.fnScope s_ismark) .none kV_ismark dc_ismark pm_ismark an_ismark cd_ismark ct_ismark), sl_ismark⟩)
    (c_ismark : PySem.W.codeIn K cd_ismark "is_mark" = true)
    (k_ismark : PySem.W.keepIn K (.ref f_ismark) = true)
    (a_until : PySem.W.nsIn K mainGlobals "_walked_until" = some (some (.ref f_until)))
    (l_until : K.lookup f_until = some ⟨oc_until, od_until, .func (PySem.W.fnOf "_walked_until" "_walked_until" (C8.fnArgs s_until) (C8.fnBody s_until) (C8.fnScope s_until) .none kV_until dc_until pm_until an_until cd_until ct_until), sl_until⟩)
    (c_until : PySem.W.codeIn K cd_until "_walked_until" = true)
    (k_until : PySem.W.keepIn K (.ref f_until) = true)
    (a_least : PySem.W.nsIn K mainGlobals "least_way" = some (some (.ref f_least)))
    (l_least : K.lookup f_least = some ⟨oc_least, od_least, .func (PySem.W.fnOf "least_way" "least_way" (C8.fnArgs s_least) (C8.fnBody s_least) (C8.fnScope s_least) .none kV_least dc_least pm_least an_least cd_least ct_least), sl_least⟩)
    (c_least : PySem.W.codeIn K cd_least "least_way" = true)
    (k_least : PySem.W.keepIn K (.ref f_least) = true)
    (a_islot : PySem.W.nsIn K mainGlobals "is_lot" = some (some (.ref f_islot)))
    (l_islot : K.lookup f_islot = some ⟨oc_islot, od_islot, .func (PySem.W.fnOf "is_lot" "is_lot" (C8.fnArgs s_islot) (C8.fnBody s_islot) (C8.fnScope s_islot) .none kV_islot dc_islot pm_islot an_islot cd_islot ct_islot), sl_islot⟩)
    (c_islot : PySem.W.codeIn K cd_islot "is_lot" = true)
    (k_islot : PySem.W.keepIn K (.ref f_islot) = true)
    (a_chlot : PySem.W.nsIn K mainGlobals "check_lot" = some (some (.ref f_chlot)))
    (l_chlot : K.lookup f_chlot = some ⟨oc_chlot, od_chlot, .func (PySem.W.fnOf "check_lot" "check_lot" (C8.fnArgs s_chlot) (C8.fnBody s_chlot) (C8.fnScope s_chlot) .none kV_chlot dc_chlot pm_chlot an_chlot cd_chlot ct_chlot), sl_chlot⟩)
    (c_chlot : PySem.W.codeIn K cd_chlot "check_lot" = true)
    (k_chlot : PySem.W.keepIn K (.ref f_chlot) = true)
    (a_flags : PySem.W.nsIn K mainGlobals "flags_of" = some (some (.ref f_flags)))
    (l_flags : K.lookup f_flags = some ⟨oc_flags, od_flags, .func (PySem.W.fnOf "flags_of" "flags_of" (C8.fnArgs s_flags) (C8.fnBody s_flags) (C8.fnScope s_flags) .none kV_flags dc_flags pm_flags an_flags cd_flags ct_flags), sl_flags⟩)
    (c_flags : PySem.W.codeIn K cd_flags "flags_of" = true)
    (k_flags : PySem.W.keepIn K (.ref f_flags) = true)
    (a_ways : PySem.W.nsIn K mainGlobals "ways_by_length" = some (some (.ref f_ways)))
    (l_ways : K.lookup f_ways = some ⟨oc_ways, od_ways, .func (PySem.W.fnOf "ways_by_length" "ways_by_length" (C8.fnArgs s_ways) (C8.fnBody s_ways) (C8.fnScope s_ways) .none kV_ways dc_ways pm_ways an_ways cd_ways ct_ways), sl_ways⟩)
    (c_ways : PySem.W.codeIn K cd_ways "ways_by_length" = true)
    (k_ways : PySem.W.keepIn K (.ref f_ways) = true)
    (a_ahead : PySem.W.nsIn K mainGlobals "_ways_ahead" = some (some (.ref f_ahead)))
    (l_ahead : K.lookup f_ahead = some ⟨oc_ahead, od_ahead, .func (PySem.W.fnOf "_ways_ahead" "_ways_ahead" (C8.fnArgs s_ahead) (C8.fnBody s_ahead) (C8.fnScope s_ahead) .none kV_ahead dc_ahead pm_ahead an_ahead cd_ahead ct_ahead), sl_ahead⟩)
    (c_ahead : PySem.W.codeIn K cd_ahead "_ways_ahead" = true)
    (k_ahead : PySem.W.keepIn K (.ref f_ahead) = true)
    (a_lfrom : PySem.W.nsIn K mainGlobals "longest_from" = some (some (.ref f_lfrom)))
    (l_lfrom : K.lookup f_lfrom = some ⟨oc_lfrom, od_lfrom, .func (PySem.W.fnOf "longest_from" "longest_from" (C8.fnArgs s_lfrom) (C8.fnBody s_lfrom) (C8.fnScope s_lfrom) .none kV_lfrom dc_lfrom pm_lfrom an_lfrom cd_lfrom ct_lfrom), sl_lfrom⟩)
    (c_lfrom : PySem.W.codeIn K cd_lfrom "longest_from" = true)
    (k_lfrom : PySem.W.keepIn K (.ref f_lfrom) = true)
    (a_numd : PySem.W.nsIn K mainGlobals "row_numbered" = some (some (.ref f_numd)))
    (l_numd : K.lookup f_numd = some ⟨oc_numd, od_numd, .func (PySem.W.fnOf "row_numbered" "row_numbered" (C8.fnArgs s_numd) (C8.fnBody s_numd) (C8.fnScope s_numd) .none kV_numd dc_numd pm_numd an_numd cd_numd ct_numd), sl_numd⟩)
    (c_numd : PySem.W.codeIn K cd_numd "row_numbered" = true)
    (k_numd : PySem.W.keepIn K (.ref f_numd) = true)
    (a_rowof : PySem.W.nsIn K mainGlobals "_row_of_length" = some (some (.ref f_rowof)))
    (l_rowof : K.lookup f_rowof = some ⟨oc_rowof, od_rowof, .func (PySem.W.fnOf "_row_of_length" "_row_of_length" (C8.fnArgs s_rowof) (C8.fnBody s_rowof) (C8.fnScope s_rowof) .none kV_rowof dc_rowof pm_rowof an_rowof cd_rowof ct_rowof), sl_rowof⟩)
    (c_rowof : PySem.W.codeIn K cd_rowof "_row_of_length" = true)
    (k_rowof : PySem.W.keepIn K (.ref f_rowof) = true)
    (a_numof : PySem.W.nsIn K mainGlobals "number_of_row" = some (some (.ref f_numof)))
    (l_numof : K.lookup f_numof = some ⟨oc_numof, od_numof, .func (PySem.W.fnOf "number_of_row" "number_of_row" (C8.fnArgs s_numof) (C8.fnBody s_numof) (C8.fnScope s_numof) .none kV_numof dc_numof pm_numof an_numof cd_numof ct_numof), sl_numof⟩)
    (c_numof : PySem.W.codeIn K cd_numof "number_of_row" = true)
    (k_numof : PySem.W.keepIn K (.ref f_numof) = true)
    (a_lrow : PySem.W.nsIn K mainGlobals "least_row" = some (some (.ref f_lrow)))
    (l_lrow : K.lookup f_lrow = some ⟨oc_lrow, od_lrow, .func (PySem.W.fnOf "least_row" "least_row" (C8.fnArgs s_lrow) (C8.fnBody s_lrow) (C8.fnScope s_lrow) .none kV_lrow dc_lrow pm_lrow an_lrow cd_lrow ct_lrow), sl_lrow⟩)
    (c_lrow : PySem.W.codeIn K cd_lrow "least_row" = true)
    (k_lrow : PySem.W.keepIn K (.ref f_lrow) = true)
    (a_many : PySem.W.nsIn K mainGlobals "how_many" = some (some (.ref f_many)))
    (l_many : K.lookup f_many = some ⟨oc_many, od_many, .func (PySem.W.fnOf "how_many" "how_many" (C8.fnArgs s_many) (C8.fnBody s_many) (C8.fnScope s_many) .none kV_many dc_many pm_many an_many cd_many ct_many), sl_many⟩)
    (c_many : PySem.W.codeIn K cd_many "how_many" = true)
    (k_many : PySem.W.keepIn K (.ref f_many) = true)
    (a_rowat : PySem.W.nsIn K mainGlobals "row_at" = some (some (.ref f_rowat)))
    (l_rowat : K.lookup f_rowat = some ⟨oc_rowat, od_rowat, .func (PySem.W.fnOf "row_at" "row_at" (C8.fnArgs s_rowat) (C8.fnBody s_rowat) (C8.fnScope s_rowat) .none kV_rowat dc_rowat pm_rowat an_rowat cd_rowat ct_rowat), sl_rowat⟩)
    (c_rowat : PySem.W.codeIn K cd_rowat "row_at" = true)
    (k_rowat : PySem.W.keepIn K (.ref f_rowat) = true)
    (a_place : PySem.W.nsIn K mainGlobals "place_of" = some (some (.ref f_place)))
    (l_place : K.lookup f_place = some ⟨oc_place, od_place, .func (PySem.W.fnOf "place_of" "place_of" (C8.fnArgs s_place) (C8.fnBody s_place) (C8.fnScope s_place) .none kV_place dc_place pm_place an_place cd_place ct_place), sl_place⟩)
    (c_place : PySem.W.codeIn K cd_place "place_of" = true)
    (k_place : PySem.W.keepIn K (.ref f_place) = true)
    (a_longest : PySem.W.nsIn K mainGlobals "longest" = some (some (.ref f_longest)))
    (l_longest : K.lookup f_longest = some ⟨oc_longest, od_longest, .func (PySem.W.fnOf "longest" "longest" (C8.fnArgs s_longest) (C8.fnBody s_longest) (C8.fnScope s_longest) .none kV_longest dc_longest pm_longest an_longest cd_longest ct_longest), sl_longest⟩)
    (c_longest : PySem.W.codeIn K cd_longest "longest" = true)
    (k_longest : PySem.W.keepIn K (.ref f_longest) = true)
    (a_nums : PySem.W.nsIn K mainGlobals "_numbers_of" = some (some (.ref f_nums)))
    (l_nums : K.lookup f_nums = some ⟨oc_nums, od_nums, .func (PySem.W.fnOf "_numbers_of" "_numbers_of" (C8.fnArgs s_nums) (C8.fnBody s_nums) (C8.fnScope s_nums) .none kV_nums dc_nums pm_nums an_nums cd_nums ct_nums), sl_nums⟩)
    (c_nums : PySem.W.codeIn K cd_nums "_numbers_of" = true)
    (k_nums : PySem.W.keepIn K (.ref f_nums) = true)
    (a_lrfrom : PySem.W.nsIn K mainGlobals "_least_row_from" = some (some (.ref f_lrfrom)))
    (l_lrfrom : K.lookup f_lrfrom = some ⟨oc_lrfrom, od_lrfrom, .func (PySem.W.fnOf "_least_row_from" "_least_row_from" (C8.fnArgs s_lrfrom) (C8.fnBody s_lrfrom) (C8.fnScope s_lrfrom) .none kV_lrfrom dc_lrfrom pm_lrfrom an_lrfrom (.ref cc_lrfrom) ct_lrfrom), sl_lrfrom⟩)
    (lc_lrfrom : K.lookup cc_lrfrom = some ⟨oc2_lrfrom, oe_lrfrom, .fields vs_lrfrom, sl2_lrfrom⟩)
    (pv_lrfrom : (vs_lrfrom[11]? : Option Value) = some (.ref PP_lrfrom))
    (tn_lrfrom : K.lookup PP_lrfrom = none)
    (c_lrfrom : PySem.W.codeIn K (.ref cc_lrfrom) "_least_row_from" = true)
    (k_lrfrom : PySem.W.keepIn K (.ref f_lrfrom) = true)
    (a_made : PySem.W.nsIn K mainGlobals "_law_made" = some (some (.ref f_made)))
    (l_made : K.lookup f_made = some ⟨oc_made, od_made, .func (PySem.W.fnOf "_law_made" "_law_made" (C8.fnArgs s_made) (C8.fnBody s_made) (C8.fnScope s_made) .none kV_made dc_made pm_made an_made cd_made ct_made), sl_made⟩)
    (c_made : PySem.W.codeIn K cd_made "_law_made" = true)
    (k_made : PySem.W.keepIn K (.ref f_made) = true)
    (a_led : PySem.W.nsIn K mainGlobals "_law_led" = some (some (.ref f_led)))
    (l_led : K.lookup f_led = some ⟨oc_led, od_led, .func (PySem.W.fnOf "_law_led" "_law_led" (C8.fnArgs s_led) (C8.fnBody s_led) (C8.fnScope s_led) .none kV_led dc_led pm_led an_led cd_led ct_led), sl_led⟩)
    (c_led : PySem.W.codeIn K cd_led "_law_led" = true)
    (k_led : PySem.W.keepIn K (.ref f_led) = true)
    (a_rows : PySem.W.nsIn K mainGlobals "_law_rows" = some (some (.ref f_rows)))
    (l_rows : K.lookup f_rows = some ⟨oc_rows, od_rows, .func (PySem.W.fnOf "_law_rows" "_law_rows" (C8.fnArgs s_rows) (C8.fnBody s_rows) (C8.fnScope s_rows) .none kV_rows dc_rows pm_rows an_rows cd_rows ct_rows), sl_rows⟩)
    (c_rows : PySem.W.codeIn K cd_rows "_law_rows" = true)
    (k_rows : PySem.W.keepIn K (.ref f_rows) = true)
    (a_lot : PySem.W.nsIn K mainGlobals "_law_lot" = some (some (.ref f_lot)))
    (l_lot : K.lookup f_lot = some ⟨oc_lot, od_lot, .func (PySem.W.fnOf "_law_lot" "_law_lot" (C8.fnArgs s_lot) (C8.fnBody s_lot) (C8.fnScope s_lot) .none kV_lot dc_lot pm_lot an_lot cd_lot ct_lot), sl_lot⟩)
    (c_lot : PySem.W.codeIn K cd_lot "_law_lot" = true)
    (k_lot : PySem.W.keepIn K (.ref f_lot) = true)
    (a_lmany : PySem.W.nsIn K mainGlobals "_law_many" = some (some (.ref f_lmany)))
    (l_lmany : K.lookup f_lmany = some ⟨oc_lmany, od_lmany, .func (PySem.W.fnOf "_law_many" "_law_many" (C8.fnArgs s_lmany) (C8.fnBody s_lmany) (C8.fnScope s_lmany) .none kV_lmany dc_lmany pm_lmany an_lmany cd_lmany ct_lmany), sl_lmany⟩)
    (c_lmany : PySem.W.codeIn K cd_lmany "_law_many" = true)
    (k_lmany : PySem.W.keepIn K (.ref f_lmany) = true)
    (a_lgreat : PySem.W.nsIn K mainGlobals "_law_greatest" = some (some (.ref f_lgreat)))
    (l_lgreat : K.lookup f_lgreat = some ⟨oc_lgreat, od_lgreat, .func (PySem.W.fnOf "_law_greatest" "_law_greatest" (C8.fnArgs s_lgreat) (C8.fnBody s_lgreat) (C8.fnScope s_lgreat) .none kV_lgreat dc_lgreat pm_lgreat an_lgreat cd_lgreat ct_lgreat), sl_lgreat⟩)
    (c_lgreat : PySem.W.codeIn K cd_lgreat "_law_greatest" = true)
    (k_lgreat : PySem.W.keepIn K (.ref f_lgreat) = true)
    (a_missed : PySem.W.nsIn K mainGlobals "_law_missed" = some (some (.ref f_missed)))
    (l_missed : K.lookup f_missed = some ⟨oc_missed, od_missed, .func (PySem.W.fnOf "_law_missed" "_law_missed" (C8.fnArgs s_missed) (C8.fnBody s_missed) (C8.fnScope s_missed) .none kV_missed dc_missed pm_missed an_missed cd_missed ct_missed), sl_missed⟩)
    (c_missed : PySem.W.codeIn K cd_missed "_law_missed" = true)
    (k_missed : PySem.W.keepIn K (.ref f_missed) = true)
    (a_law : PySem.W.nsIn K mainGlobals "law" = some (some (.ref f_law)))
    (l_law : K.lookup f_law = some ⟨oc_law, od_law, .func (PySem.W.fnOf "law" "law" (C8.fnArgs s_law) (C8.fnBody s_law) (C8.fnScope s_law) .none kV_law dc_law pm_law an_law cd_law ct_law), sl_law⟩)
    (c_law : PySem.W.codeIn K cd_law "law" = true)
    (k_law : PySem.W.keepIn K (.ref f_law) = true)
    (z_int : PySem.W.nsIn K mainGlobals "int" = some none)
    (z_len : PySem.W.nsIn K mainGlobals "len" = some none)
    (z_abs : PySem.W.nsIn K mainGlobals "abs" = some none)
    (z_str : PySem.W.nsIn K mainGlobals "str" = some none)
    (z_list : PySem.W.nsIn K mainGlobals "list" = some none)
    (z_tuple : PySem.W.nsIn K mainGlobals "tuple" = some none)
    (z_dict : PySem.W.nsIn K mainGlobals "dict" = some none)
    (z_set : PySem.W.nsIn K mainGlobals "set" = some none)
    (z_isinstance : PySem.W.nsIn K mainGlobals "isinstance" = some none)
    (z_all : PySem.W.nsIn K mainGlobals "all" = some none)
    (z_zip : PySem.W.nsIn K mainGlobals "zip" = some none)
    (z_enumerate : PySem.W.nsIn K mainGlobals "enumerate" = some none)
    (z_range : PySem.W.nsIn K mainGlobals "range" = some none)
    (z_max : PySem.W.nsIn K mainGlobals "max" = some none)
    (z_min : PySem.W.nsIn K mainGlobals "min" = some none)
    (z_sorted : PySem.W.nsIn K mainGlobals "sorted" = some none)
    (z_repr : PySem.W.nsIn K mainGlobals "repr" = some none)
    (z_sum : PySem.W.nsIn K mainGlobals "sum" = some none)
    (z_any : PySem.W.nsIn K mainGlobals "any" = some none)
    (z_reversed : PySem.W.nsIn K mainGlobals "reversed" = some none) :
    ∃ (fd : FuncData) (tt : List (Addr × Addr)), (∀ p ∈ tt, (∃ (nm : Str) (e : DefRec), PySem.W.tabIn K nm = some p ∧ (PyProof.Rows.recsOf qp).find? (fun e => e.name == nm) = some e) ∧ K.lookup p.2 = none) ∧ (∀ (s : Shared) (v : Value), BindsTo s fd ⟨[v], []⟩ [("script", v)]) ∧ ∀ base : Heap, K.In base → base.Ns mainGlobals mg → (∀ p ∈ tt, LamX.TabB base mg p.1 p.2) → FnG l.prog w K mg base 8 fa fd ["script"] (spLaw (ttOf tt) K) := by
  have e := hfa.symm.trans (PySem.W.mg_of X G a_law)
  cases e
  have T : BT mg := ⟨PySem.W.mg_none_of X G z_int, PySem.W.mg_none_of X G z_len, PySem.W.mg_none_of X G z_abs, PySem.W.mg_none_of X G z_str, PySem.W.mg_none_of X G z_list, PySem.W.mg_none_of X G z_tuple, PySem.W.mg_none_of X G z_dict, PySem.W.mg_none_of X G z_set, PySem.W.mg_none_of X G z_isinstance, PySem.W.mg_none_of X G z_all, PySem.W.mg_none_of X G z_zip, PySem.W.mg_none_of X G z_enumerate, PySem.W.mg_none_of X G z_range, PySem.W.mg_none_of X G z_max, PySem.W.mg_none_of X G z_min, PySem.W.mg_none_of X G z_sorted, PySem.W.mg_none_of X G z_repr, PySem.W.mg_none_of X G z_sum, PySem.W.mg_none_of X G z_any, PySem.W.mg_none_of X G z_reversed⟩
  have mg_az := PySem.W.mg_of X G q_az
  have U_take : C8.Fun K "_law_take" "_law_take" s_take f_take (PySem.W.fnOf "_law_take" "_law_take" (C8.fnArgs s_take) (C8.fnBody s_take) (C8.fnScope s_take) .none kV_take dc_take pm_take an_take cd_take ct_take) := ⟨oc_take, od_take, .none, kV_take, dc_take, pm_take, an_take, cd_take, ct_take, sl_take, rfl, l_take, c_take⟩
  have F_take : C8.Def K mg "_law_take" s_take f_take _ := ⟨U_take, PySem.W.mg_of X G a_take, k_take⟩
  have b_take := U_take.binds rfl (ps := ["box", "many"]) fun _ _ _ _ _ _ us hl => match us, hl with | [_, _], _ => rfl
  have U_pick : C8.Fun K "_law_pick" "_law_pick" s_pick f_pick (PySem.W.fnOf "_law_pick" "_law_pick" (C8.fnArgs s_pick) (C8.fnBody s_pick) (C8.fnScope s_pick) .none kV_pick dc_pick pm_pick an_pick cd_pick ct_pick) := ⟨oc_pick, od_pick, .none, kV_pick, dc_pick, pm_pick, an_pick, cd_pick, ct_pick, sl_pick, rfl, l_pick, c_pick⟩
  have F_pick : C8.Def K mg "_law_pick" s_pick f_pick _ := ⟨U_pick, PySem.W.mg_of X G a_pick, k_pick⟩
  have b_pick := U_pick.binds rfl (ps := ["box", "some"]) fun _ _ _ _ _ _ us hl => match us, hl with | [_, _], _ => rfl
  have U_mixed : C8.Fun K "_law_mixed" "_law_mixed" s_mixed f_mixed (PySem.W.fnOf "_law_mixed" "_law_mixed" (C8.fnArgs s_mixed) (C8.fnBody s_mixed) (C8.fnScope s_mixed) .none kV_mixed dc_mixed pm_mixed an_mixed cd_mixed ct_mixed) := ⟨oc_mixed, od_mixed, .none, kV_mixed, dc_mixed, pm_mixed, an_mixed, cd_mixed, ct_mixed, sl_mixed, rfl, l_mixed, c_mixed⟩
  have F_mixed : C8.Def K mg "_law_mixed" s_mixed f_mixed _ := ⟨U_mixed, PySem.W.mg_of X G a_mixed, k_mixed⟩
  have b_mixed := U_mixed.binds rfl (ps := ["box", "some"]) fun _ _ _ _ _ _ us hl => match us, hl with | [_, _], _ => rfl
  have U_signs : C8.Fun K "_law_signs" "_law_signs" s_signs f_signs (PySem.W.fnOf "_law_signs" "_law_signs" (C8.fnArgs s_signs) (C8.fnBody s_signs) (C8.fnScope s_signs) .none kV_signs dc_signs pm_signs an_signs cd_signs ct_signs) := ⟨oc_signs, od_signs, .none, kV_signs, dc_signs, pm_signs, an_signs, cd_signs, ct_signs, sl_signs, rfl, l_signs, c_signs⟩
  have F_signs : C8.Def K mg "_law_signs" s_signs f_signs _ := ⟨U_signs, PySem.W.mg_of X G a_signs, k_signs⟩
  have b_signs := U_signs.binds rfl (ps := ["box"]) fun _ _ _ _ _ _ us hl => match us, hl with | [_], _ => rfl
  have U_drawn : C8.Fun K "_law_drawn" "_law_drawn" s_drawn f_drawn (PySem.W.fnOf "_law_drawn" "_law_drawn" (C8.fnArgs s_drawn) (C8.fnBody s_drawn) (C8.fnScope s_drawn) .none kV_drawn dc_drawn pm_drawn an_drawn cd_drawn ct_drawn) := ⟨oc_drawn, od_drawn, .none, kV_drawn, dc_drawn, pm_drawn, an_drawn, cd_drawn, ct_drawn, sl_drawn, rfl, l_drawn, c_drawn⟩
  have F_drawn : C8.Def K mg "_law_drawn" s_drawn f_drawn _ := ⟨U_drawn, PySem.W.mg_of X G a_drawn, k_drawn⟩
  have b_drawn := U_drawn.binds rfl (ps := ["box", "signs", "most"]) fun _ _ _ _ _ _ us hl => match us, hl with | [_, _, _], _ => rfl
  have U_box : C8.Fun K "_law_box" "_law_box" s_box f_box (PySem.W.fnOf "_law_box" "_law_box" (C8.fnArgs s_box) (C8.fnBody s_box) (C8.fnScope s_box) .none kV_box dc_box pm_box an_box cd_box ct_box) := ⟨oc_box, od_box, .none, kV_box, dc_box, pm_box, an_box, cd_box, ct_box, sl_box, rfl, l_box, c_box⟩
  have F_box : C8.Def K mg "_law_box" s_box f_box _ := ⟨U_box, PySem.W.mg_of X G a_box, k_box⟩
  have b_box := U_box.binds rfl (ps := ["script", "base"]) fun _ _ _ _ _ _ us hl => match us, hl with | [_, _], _ => rfl
  have U_isseq : C8.Fun K "is_sequence" "is_sequence" s_isseq f_isseq (PySem.W.fnOf "is_sequence" "is_sequence" (C8.fnArgs s_isseq) (C8.fnBody s_isseq) (C8.fnScope s_isseq) .none kV_isseq dc_isseq pm_isseq an_isseq cd_isseq ct_isseq) := ⟨oc_isseq, od_isseq, .none, kV_isseq, dc_isseq, pm_isseq, an_isseq, cd_isseq, ct_isseq, sl_isseq, rfl, l_isseq, c_isseq⟩
  have F_isseq : C8.Def K mg "is_sequence" s_isseq f_isseq _ := ⟨U_isseq, PySem.W.mg_of X G a_isseq, k_isseq⟩
  have b_isseq := U_isseq.binds rfl (ps := ["value"]) fun _ _ _ _ _ _ us hl => match us, hl with | [_], _ => rfl
  have U_isrow : C8.Fun K "is_row" "is_row" s_isrow f_isrow (PySem.W.fnOf "is_row" "is_row" (C8.fnArgs s_isrow) (C8.fnBody s_isrow) (C8.fnScope s_isrow) .none kV_isrow dc_isrow pm_isrow an_isrow cd_isrow ct_isrow) := ⟨oc_isrow, od_isrow, .none, kV_isrow, dc_isrow, pm_isrow, an_isrow, cd_isrow, ct_isrow, sl_isrow, rfl, l_isrow, c_isrow⟩
  have F_isrow : C8.Def K mg "is_row" s_isrow f_isrow _ := ⟨U_isrow, PySem.W.mg_of X G a_isrow, k_isrow⟩
  have b_isrow := U_isrow.binds rfl (ps := ["value", "signs"]) fun _ _ _ _ _ _ us hl => match us, hl with | [_, _], _ => rfl
  have U_isletters : C8.Fun K "is_letters" "is_letters" s_isletters f_isletters (PySem.W.fnOf "is_letters" "is_letters" (C8.fnArgs s_isletters) (C8.fnBody s_isletters) (C8.fnScope s_isletters) .none kV_isletters dc_isletters pm_isletters an_isletters cd_isletters ct_isletters) := ⟨oc_isletters, od_isletters, .none, kV_isletters, dc_isletters, pm_isletters, an_isletters, cd_isletters, ct_isletters, sl_isletters, rfl, l_isletters, c_isletters⟩
  have F_isletters : C8.Def K mg "is_letters" s_isletters f_isletters _ := ⟨U_isletters, PySem.W.mg_of X G a_isletters, k_isletters⟩
  have b_isletters := U_isletters.binds rfl (ps := ["value"]) fun _ _ _ _ _ _ us hl => match us, hl with | [_], _ => rfl
  have U_issigns : C8.Fun K "is_signs" "is_signs" s_issigns f_issigns (PySem.W.fnOf "is_signs" "is_signs" (C8.fnArgs s_issigns) (C8.fnBody s_issigns) (C8.fnScope s_issigns) .none kV_issigns dc_issigns pm_issigns an_issigns cd_issigns ct_issigns) := ⟨oc_issigns, od_issigns, .none, kV_issigns, dc_issigns, pm_issigns, an_issigns, cd_issigns, ct_issigns, sl_issigns, rfl, l_issigns, c_issigns⟩
  have F_issigns : C8.Def K mg "is_signs" s_issigns f_issigns _ := ⟨U_issigns, PySem.W.mg_of X G a_issigns, k_issigns⟩
  have b_issigns := U_issigns.binds rfl (ps := ["value"]) fun _ _ _ _ _ _ us hl => match us, hl with | [_], _ => rfl
  have U_isname : C8.Fun K "is_name" "is_name" s_isname f_isname (PySem.W.fnOf "is_name" "is_name" (C8.fnArgs s_isname) (C8.fnBody s_isname) (C8.fnScope s_isname) .none kV_isname dc_isname pm_isname an_isname cd_isname ct_isname) := ⟨oc_isname, od_isname, .none, kV_isname, dc_isname, pm_isname, an_isname, cd_isname, ct_isname, sl_isname, rfl, l_isname, c_isname⟩
  have F_isname : C8.Def K mg "is_name" s_isname f_isname _ := ⟨U_isname, PySem.W.mg_of X G a_isname, k_isname⟩
  have b_isname := U_isname.binds rfl (ps := ["value"]) fun _ _ _ _ _ _ us hl => match us, hl with | [_], _ => rfl
  have U_ismarks : C8.Fun K "_is_marks" "_is_marks" s_ismarks f_ismarks (PySem.W.fnOf "_is_marks" "_is_marks" (C8.fnArgs s_ismarks) (C8.fnBody s_ismarks) (C8.fnScope s_ismarks) .none kV_ismarks dc_ismarks pm_ismarks an_ismarks cd_ismarks ct_ismarks) := ⟨oc_ismarks, od_ismarks, .none, kV_ismarks, dc_ismarks, pm_ismarks, an_ismarks, cd_ismarks, ct_ismarks, sl_ismarks, rfl, l_ismarks, c_ismarks⟩
  have F_ismarks : C8.Def K mg "_is_marks" s_ismarks f_ismarks _ := ⟨U_ismarks, PySem.W.mg_of X G a_ismarks, k_ismarks⟩
  have b_ismarks := U_ismarks.binds rfl (ps := ["value"]) fun _ _ _ _ _ _ us hl => match us, hl with | [_], _ => rfl
  have U_istargets : C8.Fun K "_is_targets" "_is_targets" s_istargets f_istargets (PySem.W.fnOf "_is_targets" "_is_targets" (C8.fnArgs s_istargets) (C8.fnBody s_istargets) (C8.fnScope s_istargets) .none kV_istargets dc_istargets pm_istargets an_istargets cd_istargets ct_istargets) := ⟨oc_istargets, od_istargets, .none, kV_istargets, dc_istargets, pm_istargets, an_istargets, cd_istargets, ct_istargets, sl_istargets, rfl, l_istargets, c_istargets⟩
  have F_istargets : C8.Def K mg "_is_targets" s_istargets f_istargets _ := ⟨U_istargets, PySem.W.mg_of X G a_istargets, k_istargets⟩
  have b_istargets := U_istargets.binds rfl (ps := ["value", "signs", "marks"]) fun _ _ _ _ _ _ us hl => match us, hl with | [_, _, _], _ => rfl
  have U_issteps : C8.Fun K "_is_steps" "_is_steps" s_issteps f_issteps (PySem.W.fnOf "_is_steps" "_is_steps" (C8.fnArgs s_issteps) (C8.fnBody s_issteps) (C8.fnScope s_issteps) .none kV_issteps dc_issteps pm_issteps an_issteps cd_issteps ct_issteps) := ⟨oc_issteps, od_issteps, .none, kV_issteps, dc_issteps, pm_issteps, an_issteps, cd_issteps, ct_issteps, sl_issteps, rfl, l_issteps, c_issteps⟩
  have F_issteps : C8.Def K mg "_is_steps" s_issteps f_issteps _ := ⟨U_issteps, PySem.W.mg_of X G a_issteps, k_issteps⟩
  have b_issteps := U_issteps.binds rfl (ps := ["value", "signs", "marks"]) fun _ _ _ _ _ _ us hl => match us, hl with | [_, _, _], _ => rfl
  have U_m_num : C8.Fun K "number_of" "Reader.number_of" s_m_num f_m_num (PySem.W.fnOf "number_of" "Reader.number_of" (C8.fnArgs s_m_num) (C8.fnBody s_m_num) (C8.fnScope s_m_num) .none kV_m_num dc_m_num pm_m_num an_m_num cd_m_num ct_m_num) := ⟨oc_m_num, od_m_num, .none, kV_m_num, dc_m_num, pm_m_num, an_m_num, cd_m_num, ct_m_num, sl_m_num, rfl, l_m_num, c_m_num⟩
  have me_m_num : Meth K C_Reader "number_of" f_m_num := ⟨a_m_num, i_m_num, k_m_num⟩
  have b_m_num := U_m_num.binds rfl (ps := ["self", "mark"]) fun _ _ _ _ _ _ us hl => match us, hl with | [_, _], _ => rfl
  have U_table : C8.Fun K "table_of" "table_of" s_table f_table (PySem.W.fnOf "table_of" "table_of" (C8.fnArgs s_table) (C8.fnBody s_table) (C8.fnScope s_table) .none kV_table dc_table pm_table an_table cd_table ct_table) := ⟨oc_table, od_table, .none, kV_table, dc_table, pm_table, an_table, cd_table, ct_table, sl_table, rfl, l_table, c_table⟩
  have F_table : C8.Def K mg "table_of" s_table f_table _ := ⟨U_table, PySem.W.mg_of X G a_table, k_table⟩
  have b_table := U_table.binds rfl (ps := ["reader"]) fun _ _ _ _ _ _ us hl => match us, hl with | [_], _ => rfl
  have U_cols : C8.Fun K "columns_of" "columns_of" s_cols f_cols (PySem.W.fnOf "columns_of" "columns_of" (C8.fnArgs s_cols) (C8.fnBody s_cols) (C8.fnScope s_cols) .none kV_cols dc_cols pm_cols an_cols cd_cols ct_cols) := ⟨oc_cols, od_cols, .none, kV_cols, dc_cols, pm_cols, an_cols, cd_cols, ct_cols, sl_cols, rfl, l_cols, c_cols⟩
  have F_cols : C8.Def K mg "columns_of" s_cols f_cols _ := ⟨U_cols, PySem.W.mg_of X G a_cols, k_cols⟩
  have b_cols := U_cols.binds rfl (ps := ["signs", "table"]) fun _ _ _ _ _ _ us hl => match us, hl with | [_, _], _ => rfl
  have U_init : C8.Fun K "__init__" "Reader.__init__" s_init f_init (PySem.W.fnOf "__init__" "Reader.__init__" (C8.fnArgs s_init) (C8.fnBody s_init) (C8.fnScope s_init) .none kV_init dc_init pm_init an_init cd_init ct_init) := ⟨oc_init, od_init, .none, kV_init, dc_init, pm_init, an_init, cd_init, ct_init, sl_init, rfl, l_init, c_init⟩
  have me_init : Meth K C_Reader "__init__" f_init := ⟨a_init, i_init, k_init⟩
  have b_init := U_init.binds rfl (ps := ["self", "signs", "marks", "first", "steps"]) fun _ _ _ _ _ _ us hl => match us, hl with | [_, _, _, _, _], _ => rfl
  have U_ismark : C8.Fun K "is_mark" "is_mark" s_ismark f_ismark (PySem.W.fnOf "is_mark" "is_mark" (C8.fnArgs s_ismark) (C8.fnBody s_ismark) (C8.fnScope s_ismark) .none kV_ismark dc_ismark pm_ismark an_ismark cd_ismark ct_ismark) := ⟨oc_ismark, od_ismark, .none, kV_ismark, dc_ismark, pm_ismark, an_ismark, cd_ismark, ct_ismark, sl_ismark, rfl, l_ismark, c_ismark⟩
  have F_ismark : C8.Def K mg "is_mark" s_ismark f_ismark _ := ⟨U_ismark, PySem.W.mg_of X G a_ismark, k_ismark⟩
  have b_ismark := U_ismark.binds rfl (ps := ["reader", "value"]) fun _ _ _ _ _ _ us hl => match us, hl with | [_, _], _ => rfl
  have U_until : C8.Fun K "_walked_until" "_walked_until" s_until f_until (PySem.W.fnOf "_walked_until" "_walked_until" (C8.fnArgs s_until) (C8.fnBody s_until) (C8.fnScope s_until) .none kV_until dc_until pm_until an_until cd_until ct_until) := ⟨oc_until, od_until, .none, kV_until, dc_until, pm_until, an_until, cd_until, ct_until, sl_until, rfl, l_until, c_until⟩
  have F_until : C8.Def K mg "_walked_until" s_until f_until _ := ⟨U_until, PySem.W.mg_of X G a_until, k_until⟩
  have b_until := U_until.binds rfl (ps := ["signs", "begin", "lead", "is_last"]) fun _ _ _ _ _ _ us hl => match us, hl with | [_, _, _, _], _ => rfl
  have U_least : C8.Fun K "least_way" "least_way" s_least f_least (PySem.W.fnOf "least_way" "least_way" (C8.fnArgs s_least) (C8.fnBody s_least) (C8.fnScope s_least) .none kV_least dc_least pm_least an_least cd_least ct_least) := ⟨oc_least, od_least, .none, kV_least, dc_least, pm_least, an_least, cd_least, ct_least, sl_least, rfl, l_least, c_least⟩
  have F_least : C8.Def K mg "least_way" s_least f_least _ := ⟨U_least, PySem.W.mg_of X G a_least, k_least⟩
  have b_least := U_least.binds rfl (ps := ["signs", "begin", "lead", "is_good"]) fun _ _ _ _ _ _ us hl => match us, hl with | [_, _, _, _], _ => rfl
  have U_islot : C8.Fun K "is_lot" "is_lot" s_islot f_islot (PySem.W.fnOf "is_lot" "is_lot" (C8.fnArgs s_islot) (C8.fnBody s_islot) (C8.fnScope s_islot) .none kV_islot dc_islot pm_islot an_islot cd_islot ct_islot) := ⟨oc_islot, od_islot, .none, kV_islot, dc_islot, pm_islot, an_islot, cd_islot, ct_islot, sl_islot, rfl, l_islot, c_islot⟩
  have F_islot : C8.Def K mg "is_lot" s_islot f_islot _ := ⟨U_islot, PySem.W.mg_of X G a_islot, k_islot⟩
  have b_islot := U_islot.binds rfl (ps := ["reader", "value"]) fun _ _ _ _ _ _ us hl => match us, hl with | [_, _], _ => rfl
  have U_chlot : C8.Fun K "check_lot" "check_lot" s_chlot f_chlot (PySem.W.fnOf "check_lot" "check_lot" (C8.fnArgs s_chlot) (C8.fnBody s_chlot) (C8.fnScope s_chlot) .none kV_chlot dc_chlot pm_chlot an_chlot cd_chlot ct_chlot) := ⟨oc_chlot, od_chlot, .none, kV_chlot, dc_chlot, pm_chlot, an_chlot, cd_chlot, ct_chlot, sl_chlot, rfl, l_chlot, c_chlot⟩
  have F_chlot : C8.Def K mg "check_lot" s_chlot f_chlot _ := ⟨U_chlot, PySem.W.mg_of X G a_chlot, k_chlot⟩
  have b_chlot := U_chlot.binds rfl (ps := ["reader", "lot"]) fun _ _ _ _ _ _ us hl => match us, hl with | [_, _], _ => rfl
  have U_flags : C8.Fun K "flags_of" "flags_of" s_flags f_flags (PySem.W.fnOf "flags_of" "flags_of" (C8.fnArgs s_flags) (C8.fnBody s_flags) (C8.fnScope s_flags) .none kV_flags dc_flags pm_flags an_flags cd_flags ct_flags) := ⟨oc_flags, od_flags, .none, kV_flags, dc_flags, pm_flags, an_flags, cd_flags, ct_flags, sl_flags, rfl, l_flags, c_flags⟩
  have F_flags : C8.Def K mg "flags_of" s_flags f_flags _ := ⟨U_flags, PySem.W.mg_of X G a_flags, k_flags⟩
  have b_flags := U_flags.binds rfl (ps := ["reader", "lot"]) fun _ _ _ _ _ _ us hl => match us, hl with | [_, _], _ => rfl
  have U_ways : C8.Fun K "ways_by_length" "ways_by_length" s_ways f_ways (PySem.W.fnOf "ways_by_length" "ways_by_length" (C8.fnArgs s_ways) (C8.fnBody s_ways) (C8.fnScope s_ways) .none kV_ways dc_ways pm_ways an_ways cd_ways ct_ways) := ⟨oc_ways, od_ways, .none, kV_ways, dc_ways, pm_ways, an_ways, cd_ways, ct_ways, sl_ways, rfl, l_ways, c_ways⟩
  have F_ways : C8.Def K mg "ways_by_length" s_ways f_ways _ := ⟨U_ways, PySem.W.mg_of X G a_ways, k_ways⟩
  have b_ways := U_ways.binds rfl (ps := ["table", "flags", "length"]) fun _ _ _ _ _ _ us hl => match us, hl with | [_, _, _], _ => rfl
  have U_ahead : C8.Fun K "_ways_ahead" "_ways_ahead" s_ahead f_ahead (PySem.W.fnOf "_ways_ahead" "_ways_ahead" (C8.fnArgs s_ahead) (C8.fnBody s_ahead) (C8.fnScope s_ahead) .none kV_ahead dc_ahead pm_ahead an_ahead cd_ahead ct_ahead) := ⟨oc_ahead, od_ahead, .none, kV_ahead, dc_ahead, pm_ahead, an_ahead, cd_ahead, ct_ahead, sl_ahead, rfl, l_ahead, c_ahead⟩
  have F_ahead : C8.Def K mg "_ways_ahead" s_ahead f_ahead _ := ⟨U_ahead, PySem.W.mg_of X G a_ahead, k_ahead⟩
  have b_ahead := U_ahead.binds rfl (ps := ["table", "ways"]) fun _ _ _ _ _ _ us hl => match us, hl with | [_, _], _ => rfl
  have U_lfrom : C8.Fun K "longest_from" "longest_from" s_lfrom f_lfrom (PySem.W.fnOf "longest_from" "longest_from" (C8.fnArgs s_lfrom) (C8.fnBody s_lfrom) (C8.fnScope s_lfrom) .none kV_lfrom dc_lfrom pm_lfrom an_lfrom cd_lfrom ct_lfrom) := ⟨oc_lfrom, od_lfrom, .none, kV_lfrom, dc_lfrom, pm_lfrom, an_lfrom, cd_lfrom, ct_lfrom, sl_lfrom, rfl, l_lfrom, c_lfrom⟩
  have F_lfrom : C8.Def K mg "longest_from" s_lfrom f_lfrom _ := ⟨U_lfrom, PySem.W.mg_of X G a_lfrom, k_lfrom⟩
  have b_lfrom := U_lfrom.binds rfl (ps := ["table", "first", "flags"]) fun _ _ _ _ _ _ us hl => match us, hl with | [_, _, _], _ => rfl
  have U_numd : C8.Fun K "row_numbered" "row_numbered" s_numd f_numd (PySem.W.fnOf "row_numbered" "row_numbered" (C8.fnArgs s_numd) (C8.fnBody s_numd) (C8.fnScope s_numd) .none kV_numd dc_numd pm_numd an_numd cd_numd ct_numd) := ⟨oc_numd, od_numd, .none, kV_numd, dc_numd, pm_numd, an_numd, cd_numd, ct_numd, sl_numd, rfl, l_numd, c_numd⟩
  have F_numd : C8.Def K mg "row_numbered" s_numd f_numd _ := ⟨U_numd, PySem.W.mg_of X G a_numd, k_numd⟩
  have b_numd := U_numd.binds rfl (ps := ["signs", "table", "first", "flags", "number"]) fun _ _ _ _ _ _ us hl => match us, hl with | [_, _, _, _, _], _ => rfl
  have U_rowof : C8.Fun K "_row_of_length" "_row_of_length" s_rowof f_rowof (PySem.W.fnOf "_row_of_length" "_row_of_length" (C8.fnArgs s_rowof) (C8.fnBody s_rowof) (C8.fnScope s_rowof) .none kV_rowof dc_rowof pm_rowof an_rowof cd_rowof ct_rowof) := ⟨oc_rowof, od_rowof, .none, kV_rowof, dc_rowof, pm_rowof, an_rowof, cd_rowof, ct_rowof, sl_rowof, rfl, l_rowof, c_rowof⟩
  have F_rowof : C8.Def K mg "_row_of_length" s_rowof f_rowof _ := ⟨U_rowof, PySem.W.mg_of X G a_rowof, k_rowof⟩
  have b_rowof := U_rowof.binds rfl (ps := ["signs", "table", "at", "ways", "number"]) fun _ _ _ _ _ _ us hl => match us, hl with | [_, _, _, _, _], _ => rfl
  have U_numof : C8.Fun K "number_of_row" "number_of_row" s_numof f_numof (PySem.W.fnOf "number_of_row" "number_of_row" (C8.fnArgs s_numof) (C8.fnBody s_numof) (C8.fnScope s_numof) .none kV_numof dc_numof pm_numof an_numof cd_numof ct_numof) := ⟨oc_numof, od_numof, .none, kV_numof, dc_numof, pm_numof, an_numof, cd_numof, ct_numof, sl_numof, rfl, l_numof, c_numof⟩
  have F_numof : C8.Def K mg "number_of_row" s_numof f_numof _ := ⟨U_numof, PySem.W.mg_of X G a_numof, k_numof⟩
  have b_numof := U_numof.binds rfl (ps := ["signs", "table", "first", "flags", "row"]) fun _ _ _ _ _ _ us hl => match us, hl with | [_, _, _, _, _], _ => rfl
  have U_lrow : C8.Fun K "least_row" "least_row" s_lrow f_lrow (PySem.W.fnOf "least_row" "least_row" (C8.fnArgs s_lrow) (C8.fnBody s_lrow) (C8.fnScope s_lrow) .none kV_lrow dc_lrow pm_lrow an_lrow cd_lrow ct_lrow) := ⟨oc_lrow, od_lrow, .none, kV_lrow, dc_lrow, pm_lrow, an_lrow, cd_lrow, ct_lrow, sl_lrow, rfl, l_lrow, c_lrow⟩
  have F_lrow : C8.Def K mg "least_row" s_lrow f_lrow _ := ⟨U_lrow, PySem.W.mg_of X G a_lrow, k_lrow⟩
  have b_lrow := U_lrow.binds rfl (ps := ["reader", "lot"]) fun _ _ _ _ _ _ us hl => match us, hl with | [_, _], _ => rfl
  have U_many : C8.Fun K "how_many" "how_many" s_many f_many (PySem.W.fnOf "how_many" "how_many" (C8.fnArgs s_many) (C8.fnBody s_many) (C8.fnScope s_many) .none kV_many dc_many pm_many an_many cd_many ct_many) := ⟨oc_many, od_many, .none, kV_many, dc_many, pm_many, an_many, cd_many, ct_many, sl_many, rfl, l_many, c_many⟩
  have F_many : C8.Def K mg "how_many" s_many f_many _ := ⟨U_many, PySem.W.mg_of X G a_many, k_many⟩
  have b_many := U_many.binds rfl (ps := ["reader", "lot", "length"]) fun _ _ _ _ _ _ us hl => match us, hl with | [_, _, _], _ => rfl
  have U_rowat : C8.Fun K "row_at" "row_at" s_rowat f_rowat (PySem.W.fnOf "row_at" "row_at" (C8.fnArgs s_rowat) (C8.fnBody s_rowat) (C8.fnScope s_rowat) .none kV_rowat dc_rowat pm_rowat an_rowat cd_rowat ct_rowat) := ⟨oc_rowat, od_rowat, .none, kV_rowat, dc_rowat, pm_rowat, an_rowat, cd_rowat, ct_rowat, sl_rowat, rfl, l_rowat, c_rowat⟩
  have F_rowat : C8.Def K mg "row_at" s_rowat f_rowat _ := ⟨U_rowat, PySem.W.mg_of X G a_rowat, k_rowat⟩
  have b_rowat := U_rowat.binds rfl (ps := ["reader", "lot", "number"]) fun _ _ _ _ _ _ us hl => match us, hl with | [_, _, _], _ => rfl
  have U_place : C8.Fun K "place_of" "place_of" s_place f_place (PySem.W.fnOf "place_of" "place_of" (C8.fnArgs s_place) (C8.fnBody s_place) (C8.fnScope s_place) .none kV_place dc_place pm_place an_place cd_place ct_place) := ⟨oc_place, od_place, .none, kV_place, dc_place, pm_place, an_place, cd_place, ct_place, sl_place, rfl, l_place, c_place⟩
  have F_place : C8.Def K mg "place_of" s_place f_place _ := ⟨U_place, PySem.W.mg_of X G a_place, k_place⟩
  have b_place := U_place.binds rfl (ps := ["reader", "lot", "row"]) fun _ _ _ _ _ _ us hl => match us, hl with | [_, _, _], _ => rfl
  have U_longest : C8.Fun K "longest" "longest" s_longest f_longest (PySem.W.fnOf "longest" "longest" (C8.fnArgs s_longest) (C8.fnBody s_longest) (C8.fnScope s_longest) .none kV_longest dc_longest pm_longest an_longest cd_longest ct_longest) := ⟨oc_longest, od_longest, .none, kV_longest, dc_longest, pm_longest, an_longest, cd_longest, ct_longest, sl_longest, rfl, l_longest, c_longest⟩
  have F_longest : C8.Def K mg "longest" s_longest f_longest _ := ⟨U_longest, PySem.W.mg_of X G a_longest, k_longest⟩
  have b_longest := U_longest.binds rfl (ps := ["reader", "lot"]) fun _ _ _ _ _ _ us hl => match us, hl with | [_, _], _ => rfl
  have U_nums : C8.Fun K "_numbers_of" "_numbers_of" s_nums f_nums (PySem.W.fnOf "_numbers_of" "_numbers_of" (C8.fnArgs s_nums) (C8.fnBody s_nums) (C8.fnScope s_nums) .none kV_nums dc_nums pm_nums an_nums cd_nums ct_nums) := ⟨oc_nums, od_nums, .none, kV_nums, dc_nums, pm_nums, an_nums, cd_nums, ct_nums, sl_nums, rfl, l_nums, c_nums⟩
  have F_nums : C8.Def K mg "_numbers_of" s_nums f_nums _ := ⟨U_nums, PySem.W.mg_of X G a_nums, k_nums⟩
  have b_nums := U_nums.binds rfl (ps := ["reader", "lot"]) fun _ _ _ _ _ _ us hl => match us, hl with | [_, _], _ => rfl
  have U_lrfrom : C8.Fun K "_least_row_from" "_least_row_from" s_lrfrom f_lrfrom (PySem.W.fnOf "_least_row_from" "_least_row_from" (C8.fnArgs s_lrfrom) (C8.fnBody s_lrfrom) (C8.fnScope s_lrfrom) .none kV_lrfrom dc_lrfrom pm_lrfrom an_lrfrom (.ref cc_lrfrom) ct_lrfrom) := ⟨oc_lrfrom, od_lrfrom, .none, kV_lrfrom, dc_lrfrom, pm_lrfrom, an_lrfrom, (.ref cc_lrfrom), ct_lrfrom, sl_lrfrom, rfl, l_lrfrom, c_lrfrom⟩
  have F_lrfrom : C8.Def K mg "_least_row_from" s_lrfrom f_lrfrom _ := ⟨U_lrfrom, PySem.W.mg_of X G a_lrfrom, k_lrfrom⟩
  have b_lrfrom := U_lrfrom.binds rfl (ps := ["reader", "begin", "goods"]) fun _ _ _ _ _ _ us hl => match us, hl with | [_, _, _], _ => rfl
  have U_made : C8.Fun K "_law_made" "_law_made" s_made f_made (PySem.W.fnOf "_law_made" "_law_made" (C8.fnArgs s_made) (C8.fnBody s_made) (C8.fnScope s_made) .none kV_made dc_made pm_made an_made cd_made ct_made) := ⟨oc_made, od_made, .none, kV_made, dc_made, pm_made, an_made, cd_made, ct_made, sl_made, rfl, l_made, c_made⟩
  have F_made : C8.Def K mg "_law_made" s_made f_made _ := ⟨U_made, PySem.W.mg_of X G a_made, k_made⟩
  have b_made := U_made.binds rfl (ps := ["told"]) fun _ _ _ _ _ _ us hl => match us, hl with | [_], _ => rfl
  have U_led : C8.Fun K "_law_led" "_law_led" s_led f_led (PySem.W.fnOf "_law_led" "_law_led" (C8.fnArgs s_led) (C8.fnBody s_led) (C8.fnScope s_led) .none kV_led dc_led pm_led an_led cd_led ct_led) := ⟨oc_led, od_led, .none, kV_led, dc_led, pm_led, an_led, cd_led, ct_led, sl_led, rfl, l_led, c_led⟩
  have F_led : C8.Def K mg "_law_led" s_led f_led _ := ⟨U_led, PySem.W.mg_of X G a_led, k_led⟩
  have b_led := U_led.binds rfl (ps := ["told", "mark", "row"]) fun _ _ _ _ _ _ us hl => match us, hl with | [_, _, _], _ => rfl
  have U_rows : C8.Fun K "_law_rows" "_law_rows" s_rows f_rows (PySem.W.fnOf "_law_rows" "_law_rows" (C8.fnArgs s_rows) (C8.fnBody s_rows) (C8.fnScope s_rows) .none kV_rows dc_rows pm_rows an_rows cd_rows ct_rows) := ⟨oc_rows, od_rows, .none, kV_rows, dc_rows, pm_rows, an_rows, cd_rows, ct_rows, sl_rows, rfl, l_rows, c_rows⟩
  have F_rows : C8.Def K mg "_law_rows" s_rows f_rows _ := ⟨U_rows, PySem.W.mg_of X G a_rows, k_rows⟩
  have b_rows := U_rows.binds rfl (ps := ["signs", "most"]) fun _ _ _ _ _ _ us hl => match us, hl with | [_, _], _ => rfl
  have U_lot : C8.Fun K "_law_lot" "_law_lot" s_lot f_lot (PySem.W.fnOf "_law_lot" "_law_lot" (C8.fnArgs s_lot) (C8.fnBody s_lot) (C8.fnScope s_lot) .none kV_lot dc_lot pm_lot an_lot cd_lot ct_lot) := ⟨oc_lot, od_lot, .none, kV_lot, dc_lot, pm_lot, an_lot, cd_lot, ct_lot, sl_lot, rfl, l_lot, c_lot⟩
  have F_lot : C8.Def K mg "_law_lot" s_lot f_lot _ := ⟨U_lot, PySem.W.mg_of X G a_lot, k_lot⟩
  have b_lot := U_lot.binds rfl (ps := ["box", "told"]) fun _ _ _ _ _ _ us hl => match us, hl with | [_, _], _ => rfl
  have U_lmany : C8.Fun K "_law_many" "_law_many" s_lmany f_lmany (PySem.W.fnOf "_law_many" "_law_many" (C8.fnArgs s_lmany) (C8.fnBody s_lmany) (C8.fnScope s_lmany) .none kV_lmany dc_lmany pm_lmany an_lmany cd_lmany ct_lmany) := ⟨oc_lmany, od_lmany, .none, kV_lmany, dc_lmany, pm_lmany, an_lmany, cd_lmany, ct_lmany, sl_lmany, rfl, l_lmany, c_lmany⟩
  have F_lmany : C8.Def K mg "_law_many" s_lmany f_lmany _ := ⟨U_lmany, PySem.W.mg_of X G a_lmany, k_lmany⟩
  have b_lmany := U_lmany.binds rfl (ps := ["told", "lot", "length"]) fun _ _ _ _ _ _ us hl => match us, hl with | [_, _, _], _ => rfl
  have U_lgreat : C8.Fun K "_law_greatest" "_law_greatest" s_lgreat f_lgreat (PySem.W.fnOf "_law_greatest" "_law_greatest" (C8.fnArgs s_lgreat) (C8.fnBody s_lgreat) (C8.fnScope s_lgreat) .none kV_lgreat dc_lgreat pm_lgreat an_lgreat cd_lgreat ct_lgreat) := ⟨oc_lgreat, od_lgreat, .none, kV_lgreat, dc_lgreat, pm_lgreat, an_lgreat, cd_lgreat, ct_lgreat, sl_lgreat, rfl, l_lgreat, c_lgreat⟩
  have F_lgreat : C8.Def K mg "_law_greatest" s_lgreat f_lgreat _ := ⟨U_lgreat, PySem.W.mg_of X G a_lgreat, k_lgreat⟩
  have b_lgreat := U_lgreat.binds rfl (ps := ["told", "lot"]) fun _ _ _ _ _ _ us hl => match us, hl with | [_, _], _ => rfl
  have U_missed : C8.Fun K "_law_missed" "_law_missed" s_missed f_missed (PySem.W.fnOf "_law_missed" "_law_missed" (C8.fnArgs s_missed) (C8.fnBody s_missed) (C8.fnScope s_missed) .none kV_missed dc_missed pm_missed an_missed cd_missed ct_missed) := ⟨oc_missed, od_missed, .none, kV_missed, dc_missed, pm_missed, an_missed, cd_missed, ct_missed, sl_missed, rfl, l_missed, c_missed⟩
  have F_missed : C8.Def K mg "_law_missed" s_missed f_missed _ := ⟨U_missed, PySem.W.mg_of X G a_missed, k_missed⟩
  have b_missed := U_missed.binds rfl (ps := ["made", "lot", "value"]) fun _ _ _ _ _ _ us hl => match us, hl with | [_, _, _], _ => rfl
  have U_law : C8.Fun K "law" "law" s_law fa (PySem.W.fnOf "law" "law" (C8.fnArgs s_law) (C8.fnBody s_law) (C8.fnScope s_law) .none kV_law dc_law pm_law an_law cd_law ct_law) := ⟨oc_law, od_law, .none, kV_law, dc_law, pm_law, an_law, cd_law, ct_law, sl_law, rfl, l_law, c_law⟩
  have F_law : C8.Def K mg "law" s_law fa _ := ⟨U_law, PySem.W.mg_of X G a_law, k_law⟩
  have b_law := U_law.binds rfl (ps := ["script"]) fun _ _ _ _ _ _ us hl => match us, hl with | [_], _ => rfl
  have Cl_Reader : Cls K C_Reader := ⟨pg_Reader, hd_Reader, po_Reader, sa_Reader⟩
  have mg_Reader := PySem.W.mg_of X G g_Reader
  have M_Reader : Mk K C_Reader f_init := ⟨mk_Reader, a_init, i_init, kc_Reader⟩
  have I_Reader : C8.InsC K C_Reader := ⟨Cl_Reader, ha_Reader, hn_Reader, tk_Reader, hm_Reader, if_pos (beq_self_eq_true _)⟩
  have tt_lrfrom : PySem.W.tabIn K "_least_row_from" = some (cc_lrfrom, PP_lrfrom) := by simp only [PySem.W.tabIn, a_lrfrom, l_lrfrom, PySem.W.fnOf, lc_lrfrom, pv_lrfrom]
  obtain ⟨er_lrfrom, hr_lrfrom⟩ := tr_lrfrom
  refine ⟨PySem.W.fnOf "law" "law" (C8.fnArgs s_law) (C8.fnBody s_law) (C8.fnScope s_law) .none kV_law dc_law pm_law an_law cd_law ct_law, [(cc_lrfrom, PP_lrfrom)], fun p hp => ?_, fun s v => .of_eq rfl, fun base hKb hNb hTB => ?_⟩
  · rw [List.mem_singleton.mp hp]; exact ⟨⟨_, _, tt_lrfrom, hr_lrfrom⟩, tn_lrfrom⟩
  have TB_lrfrom : LamX.TabB base mg cc_lrfrom PP_lrfrom := hTB (cc_lrfrom, PP_lrfrom) (by simp)
  have CH : CR K C_Reader := ⟨Cl_Reader, n_Reader_signs, n_Reader_marks, n_Reader_first, n_Reader_steps, n_Reader__numbers, n_Reader__leads, n_Reader__columns⟩
  have mA : (PP_lrfrom, nmLr) ∈ (ttOf [(cc_lrfrom, PP_lrfrom)]) := List.mem_cons_self
  have uA : ∀ p ∈ (ttOf [(cc_lrfrom, PP_lrfrom)]), p.1 = PP_lrfrom → p.2 = nmLr := fun p hp _ => by
    rw [List.mem_singleton.mp hp]
  have c_take := ok_take (P := l.prog) (w := w) (base := base) T F_take b_take
  have c_pick := ok_pick T c_take F_pick b_pick
  have c_mixed := ok_mixed T c_take F_mixed b_mixed
  have c_signs := ok_signs T c_pick c_mixed F_signs b_signs
  have c_drawn := ok_drawn T c_take c_pick c_mixed F_drawn b_drawn
  have c_box := ok_box (P := l.prog) (w := w) (base := base) T F_box b_box
  have g_isseq := ok_isseq (P := l.prog) (w := w) (base := base) T F_isseq b_isseq
  have g_isrow := ok_isrow (P := l.prog) (w := w) (base := base) T F_isrow b_isrow
  have g_isletters := ok_isletters T mg_az g_isrow F_isletters b_isletters
  have g_issigns := ok_issigns T g_isletters F_issigns b_issigns
  have hNN : ∀ H, SqT K H N_nn (txs no10) := no_names tl_nn
  have g_isname := ok_isname T (PySem.W.mg_of X G tg_nn) hNN g_isletters F_isname b_isname
  have g_ismarks := ok_ismarks T g_isseq g_isname F_ismarks b_ismarks
  have g_istargets := ok_istargets T g_isseq F_istargets b_istargets
  have g_issteps := ok_issteps T g_isseq g_istargets F_issteps b_issteps
  have c_m_num := ok_mnum (P := l.prog) (w := w) (base := base) T CH me_m_num U_m_num b_m_num
  have c_table := ok_table T CH c_m_num F_table b_table
  have c_cols := ok_cols (P := l.prog) (w := w) (base := base) T F_cols b_cols
  have c_Reader := ok_init T CH g_issigns g_ismarks g_issteps c_table c_cols M_Reader mg_Reader U_init b_init
  have c_made := ok_made T CH mg_Reader c_Reader F_made b_made
  have c_isseqY := ok_isseqY (P := l.prog) (w := w) (base := base) T F_isseq b_isseq
  have c_ismarkD := ok_ismarkD (P := l.prog) (w := w) (base := base) T CH F_ismark b_ismark
  have c_islot := ok_islot T CH c_isseqY c_ismarkD F_islot b_islot
  have x_InvalidLot_ : XC K C_InvalidLot := XC.ve xq_InvalidLot xd_InvalidLot xs_InvalidLot xa_InvalidLot xn_InvalidLot xb_InvalidLot xt_InvalidLot xk_InvalidLot xc_InvalidLot hn_Reader tk_Reader xm_InvalidLot
  have x_InvalidRow_ : XC K C_InvalidRow := XC.ve xq_InvalidRow xd_InvalidRow xs_InvalidRow xa_InvalidRow xn_InvalidRow xb_InvalidRow xt_InvalidRow xk_InvalidRow xc_InvalidRow hn_Reader tk_Reader xm_InvalidRow
  have x_IL : XN K mg "InvalidLot" C_InvalidLot := ⟨xe_InvalidLot, PySem.W.mg_of X G xg_InvalidLot, xk_InvalidLot, xb_InvalidLot, xt_InvalidLot⟩
  have x_IR : XN K mg "InvalidRow" C_InvalidRow := ⟨xe_InvalidRow, PySem.W.mg_of X G xg_InvalidRow, xk_InvalidRow, xb_InvalidRow, xt_InvalidRow⟩
  have x_RE : XG mg "RowError" C_RowError := ⟨PySem.W.mg_of X G xg_RowError⟩
  have c_chlot := ok_chlot T x_IL c_islot F_chlot b_chlot
  have c_flags := ok_flags (P := l.prog) (w := w) (base := base) T CH F_flags b_flags
  have c_ahead := ok_ahead (P := l.prog) (w := w) (base := base) T F_ahead b_ahead
  have c_ways := ok_ways T c_ahead F_ways b_ways
  have c_lfrom := ok_lfrom (P := l.prog) (w := w) (base := base) T F_lfrom b_lfrom
  have c_rowof := ok_rowof (P := l.prog) (w := w) (base := base) T F_rowof b_rowof
  have c_numof := ok_numof T c_ways F_numof b_numof
  have c_numd := ok_numd T c_lfrom c_ways c_ahead c_rowof F_numd b_numd
  have up := fun cl dl ws us sp base' => up_leastN (P := l.prog) (w := w) T F_until b_until F_least b_least cl dl ws us sp base'
  have c_lrfrom := ok_lrfrom (TT := (ttOf [(cc_lrfrom, PP_lrfrom)])) T CH TB_lrfrom mA rfl uA c_table F_least up F_lrfrom rfl b_lrfrom
  have c_nums := ok_nums T CH c_m_num F_nums b_nums
  have c_lrow := ok_lrow T CH c_chlot c_m_num c_nums c_lrfrom F_lrow b_lrow
  have c_many := ok_many T CH c_chlot c_m_num c_table c_flags c_ways F_many b_many
  have c_longest := ok_longest T CH c_chlot c_m_num c_table c_flags c_lfrom F_longest b_longest
  have c_rowat := ok_rowat T CH c_chlot c_m_num c_table c_flags c_numd F_rowat b_rowat
  have c_isrowD := ok_isrowD (P := l.prog) (w := w) (base := base) T F_isrow b_isrow
  have c_place := ok_place T CH x_IR c_isrowD c_chlot c_m_num c_table c_flags c_numof F_place b_place
  have c_lot := ok_lot T c_take c_mixed F_lot b_lot
  have c_led := ok_led (P := l.prog) (w := w) (base := base) T F_led b_led
  have c_rows := ok_rows (P := l.prog) (w := w) (base := base) T F_rows b_rows
  have c_lmany := ok_lmany (P := l.prog) (w := w) (base := base) T F_lmany b_lmany
  have c_lgreat := ok_lgreat T c_lmany F_lgreat b_lgreat
  have c_missed := ok_missed T c_place x_IR x_RE x_InvalidRow_ xu_InvalidRow xk_rr F_missed b_missed
  exact ok_law T I_Reader xk_rs c_box c_take c_signs c_drawn c_made c_lot c_rows c_led c_lrow c_longest c_lgreat c_many c_lmany c_rowat c_place c_missed F_law
theorem walk {l : PySem.W.OpenLaw} {q : Program} {loose : List Str} {XP : (Str → Option Value) → Heap → Prop} {YP : World → Heap → Prop} {d : DefRec} {K : Params → PySem.W.Frag} (hn : l.most = some 63) (hdf : d.params.defaults = [])
    (hY : ∀ (w : World) (h : Heap), YP w h → (K w.params).In h)
    (F : ∀ (w : World) (mg : Str → Option Value) (fa : Addr) (h : Heap), (K w.params).In h → h.Ns mainGlobals mg → mg d.name = some (.ref fa) →
      ∃ (fd : FuncData) (tt : List (Addr × Addr)), (∀ p ∈ tt, (∃ (nm : Str) (e : DefRec), PySem.W.tabIn (K w.params) nm = some p ∧ (PyProof.Rows.recsOf q).find? (fun e => e.name == nm) = some e) ∧ (K w.params).lookup p.2 = none) ∧ (∀ (s : Shared) (u : Value), BindsTo s fd ⟨[u], []⟩ [("script", u)]) ∧ ∀ base : Heap, (K w.params).In base → base.Ns mainGlobals mg → (∀ p ∈ tt, LamX.TabB base mg p.1 p.2) → FnG l.prog w (K w.params) mg base 8 fa fd ["script"] (spLaw (ttOf tt) (K w.params))) :
    PySem.W.WalkO q loose XP YP l.row.toRowW d [] (fun f vs => PySem.call f vs) :=
  walkGT (n := 63) (k := 8) (x := "script") (sp := fun K tt => spLaw (ttOf tt) K) hn (by decide) hdf ⟨rfl, by decide, by decide⟩ hY F fun K tt H a ns hl ht hS => ⟨a, ns, rfl, hS, hl, fun p hp => by
    obtain ⟨e, he, rfl⟩ := List.mem_map.mp hp
    exact NdefX.TabN.nil (ht e he), fun _ => rfl⟩
end Toy
open PySem PySem.W PyProof.Rows in
set_option maxRecDepth 100000 in
set_option maxHeartbeats 0 in
theorem PySem.Challenge.cw_allrows_k18_rows_of_lots_holds : PySem.Challenge.rw_allrows_k18_rows_of_lots.Holds := by
  w_on; o_law; k_head; (case hw => w_witness2)
  k_fill
  refine Toy.walk (l := PySem.Challenge.rw_allrows_k18_rows_of_lots) rfl rfl (fun w h Y => Y.1) ?F
  case F =>
    intro w mg fa h KX G hmg
    refine' Toy.all_mk KX G hmg ?tg_nn ?tl_nn ?tr_lrfrom ?q_az ?g_Reader ?pg_Reader ?hd_Reader ?po_Reader ?sa_Reader ?kc_Reader ?n_Reader_signs ?n_Reader_marks ?n_Reader_first ?n_Reader_steps ?n_Reader__numbers ?n_Reader__leads ?n_Reader__columns ?mk_Reader ?ha_Reader ?hn_Reader ?tk_Reader ?hm_Reader ?xg_InvalidLot ?xq_InvalidLot ?xd_InvalidLot ?xs_InvalidLot ?xa_InvalidLot ?xn_InvalidLot ?xb_InvalidLot ?xt_InvalidLot ?xk_InvalidLot ?xc_InvalidLot ?xm_InvalidLot ?xu_InvalidLot ?xg_InvalidRow ?xq_InvalidRow ?xd_InvalidRow ?xs_InvalidRow ?xa_InvalidRow ?xn_InvalidRow ?xb_InvalidRow ?xt_InvalidRow ?xk_InvalidRow ?xc_InvalidRow ?xm_InvalidRow ?xu_InvalidRow ?xe_InvalidLot ?xe_InvalidRow ?xg_RowError ?xk_rr ?xk_rs ?a_take ?l_take ?c_take ?k_take ?a_pick ?l_pick ?c_pick ?k_pick ?a_mixed ?l_mixed ?c_mixed ?k_mixed ?a_signs ?l_signs ?c_signs ?k_signs ?a_drawn ?l_drawn ?c_drawn ?k_drawn ?a_box ?l_box ?c_box ?k_box ?a_isseq ?l_isseq ?c_isseq ?k_isseq ?a_isrow ?l_isrow ?c_isrow ?k_isrow ?a_isletters ?l_isletters ?c_isletters ?k_isletters ?a_issigns ?l_issigns ?c_issigns ?k_issigns ?a_isname ?l_isname ?c_isname ?k_isname ?a_ismarks ?l_ismarks ?c_ismarks ?k_ismarks ?a_istargets ?l_istargets ?c_istargets ?k_istargets ?a_issteps ?l_issteps ?c_issteps ?k_issteps ?a_m_num ?i_m_num ?l_m_num ?c_m_num ?k_m_num ?a_table ?l_table ?c_table ?k_table ?a_cols ?l_cols ?c_cols ?k_cols ?a_init ?i_init ?l_init ?c_init ?k_init ?a_ismark ?l_ismark ?c_ismark ?k_ismark ?a_until ?l_until ?c_until ?k_until ?a_least ?l_least ?c_least ?k_least ?a_islot ?l_islot ?c_islot ?k_islot ?a_chlot ?l_chlot ?c_chlot ?k_chlot ?a_flags ?l_flags ?c_flags ?k_flags ?a_ways ?l_ways ?c_ways ?k_ways ?a_ahead ?l_ahead ?c_ahead ?k_ahead ?a_lfrom ?l_lfrom ?c_lfrom ?k_lfrom ?a_numd ?l_numd ?c_numd ?k_numd ?a_rowof ?l_rowof ?c_rowof ?k_rowof ?a_numof ?l_numof ?c_numof ?k_numof ?a_lrow ?l_lrow ?c_lrow ?k_lrow ?a_many ?l_many ?c_many ?k_many ?a_rowat ?l_rowat ?c_rowat ?k_rowat ?a_place ?l_place ?c_place ?k_place ?a_longest ?l_longest ?c_longest ?k_longest ?a_nums ?l_nums ?c_nums ?k_nums ?a_lrfrom ?l_lrfrom ?lc_lrfrom ?pv_lrfrom ?tn_lrfrom ?c_lrfrom ?k_lrfrom ?a_made ?l_made ?c_made ?k_made ?a_led ?l_led ?c_led ?k_led ?a_rows ?l_rows ?c_rows ?k_rows ?a_lot ?l_lot ?c_lot ?k_lot ?a_lmany ?l_lmany ?c_lmany ?k_lmany ?a_lgreat ?l_lgreat ?c_lgreat ?k_lgreat ?a_missed ?l_missed ?c_missed ?k_missed ?a_law ?l_law ?c_law ?k_law ?z_int ?z_len ?z_abs ?z_str ?z_list ?z_tuple ?z_dict ?z_set ?z_isinstance ?z_all ?z_zip ?z_enumerate ?z_range ?z_max ?z_min ?z_sorted ?z_repr ?z_sum ?z_any ?z_reversed
    (case tg_nn => k_is)
    (case tl_nn => k_is)
    (case tr_lrfrom => exact ⟨_, rfl⟩)
    (case q_az => k_is)
    (case g_Reader => k_is)
    (case pg_Reader => k_is)
    (case hd_Reader => k_is)
    (case po_Reader => k_is)
    (case sa_Reader => k_is)
    (case kc_Reader => k_is)
    (case n_Reader_signs => k_is)
    (case n_Reader_marks => k_is)
    (case n_Reader_first => k_is)
    (case n_Reader_steps => k_is)
    (case n_Reader__numbers => k_is)
    (case n_Reader__leads => k_is)
    (case n_Reader__columns => k_is)
    (case mk_Reader => k_is)
    (case ha_Reader => k_is)
    (case hn_Reader => k_is)
    (case tk_Reader => k_is)
    (case hm_Reader => k_is)
    (case xg_InvalidLot => k_is)
    (case xq_InvalidLot => kx_is)
    (case xd_InvalidLot => k_is)
    (case xs_InvalidLot => k_is)
    (case xa_InvalidLot => k_is)
    (case xn_InvalidLot => k_is)
    (case xb_InvalidLot => k_is)
    (case xt_InvalidLot => k_is)
    (case xk_InvalidLot => k_is)
    (case xc_InvalidLot => k_is)
    (case xm_InvalidLot => k_is)
    (case xu_InvalidLot => k_is)
    (case xg_InvalidRow => k_is)
    (case xq_InvalidRow => kx_is)
    (case xd_InvalidRow => k_is)
    (case xs_InvalidRow => k_is)
    (case xa_InvalidRow => k_is)
    (case xn_InvalidRow => k_is)
    (case xb_InvalidRow => k_is)
    (case xt_InvalidRow => k_is)
    (case xk_InvalidRow => k_is)
    (case xc_InvalidRow => k_is)
    (case xm_InvalidRow => k_is)
    (case xu_InvalidRow => k_is)
    (case xe_InvalidLot => k_exc)
    (case xe_InvalidRow => k_exc)
    (case xg_RowError => k_is)
    (case xk_rr => kit_is)
    (case xk_rs => kit_is)
    (case a_take => k_is)
    (case l_take => k_is)
    (case c_take => k_is)
    (case k_take => k_is)
    (case a_pick => k_is)
    (case l_pick => k_is)
    (case c_pick => k_is)
    (case k_pick => k_is)
    (case a_mixed => k_is)
    (case l_mixed => k_is)
    (case c_mixed => k_is)
    (case k_mixed => k_is)
    (case a_signs => k_is)
    (case l_signs => k_is)
    (case c_signs => k_is)
    (case k_signs => k_is)
    (case a_drawn => k_is)
    (case l_drawn => k_is)
    (case c_drawn => k_is)
    (case k_drawn => k_is)
    (case a_box => k_is)
    (case l_box => k_is)
    (case c_box => k_is)
    (case k_box => k_is)
    (case a_isseq => k_is)
    (case l_isseq => k_is)
    (case c_isseq => k_is)
    (case k_isseq => k_is)
    (case a_isrow => k_is)
    (case l_isrow => k_is)
    (case c_isrow => k_is)
    (case k_isrow => k_is)
    (case a_isletters => k_is)
    (case l_isletters => k_is)
    (case c_isletters => k_is)
    (case k_isletters => k_is)
    (case a_issigns => k_is)
    (case l_issigns => k_is)
    (case c_issigns => k_is)
    (case k_issigns => k_is)
    (case a_isname => k_is)
    (case l_isname => k_is)
    (case c_isname => k_is)
    (case k_isname => k_is)
    (case a_ismarks => k_is)
    (case l_ismarks => k_is)
    (case c_ismarks => k_is)
    (case k_ismarks => k_is)
    (case a_istargets => k_is)
    (case l_istargets => k_is)
    (case c_istargets => k_is)
    (case k_istargets => k_is)
    (case a_issteps => k_is)
    (case l_issteps => k_is)
    (case c_issteps => k_is)
    (case k_issteps => k_is)
    (case a_m_num => k_is)
    (case i_m_num => k_is)
    (case l_m_num => k_is)
    (case c_m_num => k_is)
    (case k_m_num => k_is)
    (case a_table => k_is)
    (case l_table => k_is)
    (case c_table => k_is)
    (case k_table => k_is)
    (case a_cols => k_is)
    (case l_cols => k_is)
    (case c_cols => k_is)
    (case k_cols => k_is)
    (case a_init => k_is)
    (case i_init => k_is)
    (case l_init => k_is)
    (case c_init => k_is)
    (case k_init => k_is)
    (case a_ismark => k_is)
    (case l_ismark => k_is)
    (case c_ismark => k_is)
    (case k_ismark => k_is)
    (case a_until => k_is)
    (case l_until => k_is)
    (case c_until => k_is)
    (case k_until => k_is)
    (case a_least => k_is)
    (case l_least => k_is)
    (case c_least => k_is)
    (case k_least => k_is)
    (case a_islot => k_is)
    (case l_islot => k_is)
    (case c_islot => k_is)
    (case k_islot => k_is)
    (case a_chlot => k_is)
    (case l_chlot => k_is)
    (case c_chlot => k_is)
    (case k_chlot => k_is)
    (case a_flags => k_is)
    (case l_flags => k_is)
    (case c_flags => k_is)
    (case k_flags => k_is)
    (case a_ways => k_is)
    (case l_ways => k_is)
    (case c_ways => k_is)
    (case k_ways => k_is)
    (case a_ahead => k_is)
    (case l_ahead => k_is)
    (case c_ahead => k_is)
    (case k_ahead => k_is)
    (case a_lfrom => k_is)
    (case l_lfrom => k_is)
    (case c_lfrom => k_is)
    (case k_lfrom => k_is)
    (case a_numd => k_is)
    (case l_numd => k_is)
    (case c_numd => k_is)
    (case k_numd => k_is)
    (case a_rowof => k_is)
    (case l_rowof => k_is)
    (case c_rowof => k_is)
    (case k_rowof => k_is)
    (case a_numof => k_is)
    (case l_numof => k_is)
    (case c_numof => k_is)
    (case k_numof => k_is)
    (case a_lrow => k_is)
    (case l_lrow => k_is)
    (case c_lrow => k_is)
    (case k_lrow => k_is)
    (case a_many => k_is)
    (case l_many => k_is)
    (case c_many => k_is)
    (case k_many => k_is)
    (case a_rowat => k_is)
    (case l_rowat => k_is)
    (case c_rowat => k_is)
    (case k_rowat => k_is)
    (case a_place => k_is)
    (case l_place => k_is)
    (case c_place => k_is)
    (case k_place => k_is)
    (case a_longest => k_is)
    (case l_longest => k_is)
    (case c_longest => k_is)
    (case k_longest => k_is)
    (case a_nums => k_is)
    (case l_nums => k_is)
    (case c_nums => k_is)
    (case k_nums => k_is)
    (case a_lrfrom => k_is)
    (case l_lrfrom => k_is)
    (case lc_lrfrom => k_is)
    (case pv_lrfrom => rfl)
    (case tn_lrfrom => kernel_rfl)
    (case c_lrfrom => k_is)
    (case k_lrfrom => k_is)
    (case a_made => k_is)
    (case l_made => k_is)
    (case c_made => k_is)
    (case k_made => k_is)
    (case a_led => k_is)
    (case l_led => k_is)
    (case c_led => k_is)
    (case k_led => k_is)
    (case a_rows => k_is)
    (case l_rows => k_is)
    (case c_rows => k_is)
    (case k_rows => k_is)
    (case a_lot => k_is)
    (case l_lot => k_is)
    (case c_lot => k_is)
    (case k_lot => k_is)
    (case a_lmany => k_is)
    (case l_lmany => k_is)
    (case c_lmany => k_is)
    (case k_lmany => k_is)
    (case a_lgreat => k_is)
    (case l_lgreat => k_is)
    (case c_lgreat => k_is)
    (case k_lgreat => k_is)
    (case a_missed => k_is)
    (case l_missed => k_is)
    (case c_missed => k_is)
    (case k_missed => k_is)
    (case a_law => k_is)
    (case l_law => k_is)
    (case c_law => k_is)
    (case k_law => k_is)
    (case z_int => k_is)
    (case z_len => k_is)
    (case z_abs => k_is)
    (case z_str => k_is)
    (case z_list => k_is)
    (case z_tuple => k_is)
    (case z_dict => k_is)
    (case z_set => k_is)
    (case z_isinstance => k_is)
    (case z_all => k_is)
    (case z_zip => k_is)
    (case z_enumerate => k_is)
    (case z_range => k_is)
    (case z_max => k_is)
    (case z_min => k_is)
    (case z_sorted => k_is)
    (case z_repr => k_is)
    (case z_sum => k_is)
    (case z_any => k_is)
    (case z_reversed => k_is)
