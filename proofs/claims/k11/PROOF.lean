import PyProof.Rows.All
import Wide.All
import OpenK.AllK
import Wide.FinOn
import Lean
import PyProof.EqAt
import PyProof.EqKinds
import PyProof.TupleCall
import PyProof.DictItems
import PyProof.Rows.SortShell
import PyProof.ListRange
import PyProof.ZipIter
import PyProof.StationsW
import OpenK.KOwn
import PyProof.NsDelKeeps
import PyProof.TupleOfSeq
import KE.KDictOf
import PyProof.Rows.TupDisplay
import PyProof.DictIter
import PyProof.StrWalks
import PyProof.RangeFor
import PyProof.AttrMissSeq
import PySem.Challenge.RW_codemill_k11_refused_runs
local macro_rules | `(tactic| trivial) => `(tactic| (dsimp only; decide +kernel))
local macro_rules | `(tactic| trivial) => `(tactic| decide +kernel)
abbrev ka:=@Bool.false_ne_true
abbrev ke:=@Nat.le_refl
abbrev kf:=@List.getElem?_eq_some_iff
abbrev kh:=@decide_eq_false
abbrev ki:=@decide_eq_true
abbrev kj:=@List.length_map
abbrev kl:=@List.length_append
abbrev km:=@PySem.W.mg_of
abbrev ko:=@List.mem_singleton
abbrev kq:=@List.not_mem_nil
abbrev ku:=@Nat.le_trans
abbrev ky:=PySem.W.Frag
abbrev kz:=@if_neg
abbrev kA:=@if_pos
abbrev kB:=@Option.some.inj
abbrev kC:=@of_decide_eq_true
abbrev kD:=@List.mem_cons
abbrev kE:=@List.size_toArray
abbrev kF:=@List.length_singleton
abbrev kG:=@List.mem_of_getElem?
abbrev kJ:=@List.map_append
abbrev kK:=@List.getElem?_eq_getElem
abbrev kL:=@Nat.lt_of_lt_of_le
abbrev kM:=@List.mem_append_right
abbrev kN:=@List.mem_append_left
abbrev kO:=@List.length_cons
abbrev kP:=@List.mem_cons_self
abbrev kQ:=@List.mem_cons_of_mem
abbrev kR:=@List.mem_append
abbrev kS:=@List.map_cons
abbrev kU:=@List.append_nil
abbrev kX:=@Nat.le_of_eq
abbrev kY:=@Int.eq_ofNat_of_zero_le
abbrev kZ:=@Int.toNat_natCast
abbrev ya:=@Nat.lt_succ_self
abbrev yb:=@beq_self_eq_true
abbrev yc:=@Bool.and_eq_true
abbrev yd:=@decide_eq_true_eq
abbrev yf:=@List.getElem?_append_left
abbrev yg:=@List.getElem?_append_right
set_option genInjectivity true
set_option genSizeOf false
set_option Elab.async false
set_option linter.all false
set_option maxRecDepth 100000
theorem aR (h:True=True:=by rfl) (k:(0:Nat)=0:=by decide):True:=trivial
namespace L2
open PySem PySem.Spec PyProof.Rows
abbrev Key:=Sum Int Str
noncomputable def JD:Key→Value→Bool
 | .inl k,v=>Value.isInt k v
 | .inr x,v=>Value.isStrOf x v
noncomputable def keyH (w:World):Key→Int
 | .inl k=>hashInt k
 | .inr x=>hashStr w x
theorem qc:∀{k:Key} {v:Value},JD k v=true→(∃i t,k=Sum.inl i∧v=Value.int i t)∨(∃x t,k=Sum.inr x∧v=Value.str x t)
 | .inl i,v,h=>by
  obtain ⟨t,e⟩:=Value.isInt_shape (k:=i) (v:=v) h
  exact .inl ⟨i,t,rfl,e⟩
 | .inr x,v,h=>by
  obtain ⟨t,e⟩:=Value.isStrOf_shape (x:=x) (v:=v) h
  exact .inr ⟨x,t,rfl,e⟩
theorem JC (i:Int) (t:Tok):JD (.inl i) (.int i t)=true:=by simp [JD,Value.isInt]
theorem JA (x:Str) (t:Tok):JD (.inr x) (.str x t)=true:=by simp [JD,Value.isStrOf]
theorem z7n (a b:Int):decide ((Sum.inl a:Key)=Sum.inl b)=(a == b):=by
 by_cases e:a=b
 ·subst e;simp
 ·have h:¬(Sum.inl a:Key)=Sum.inl b:=fun q=>e (Sum.inl.inj q)
  rw [kh h]
  exact (beq_eq_false_iff_ne.mpr e).symm
theorem z7k (a b:Str):decide ((Sum.inr a:Key)=Sum.inr b)=decide (a=b):=by
 by_cases e:a=b
 ·subst e;simp
 ·have h:¬(Sum.inr a:Key)=Sum.inr b:=fun q=>e (Sum.inr.inj q)
  rw [kh h,kh e]
theorem z7m (a:Int) (b:Str):decide ((Sum.inl a:Key)=Sum.inr b)=false:=kh (fun q=>nomatch q)
theorem z7l (a:Str) (b:Int):decide ((Sum.inr a:Key)=Sum.inl b)=false:=kh (fun q=>nomatch q)
noncomputable def zK (prog:Program) (w:World):PySem.KeyKind prog w Key where
 is:=JD
 hash:=keyH w
 inj:=fun v a b ha hb=>by
  rcases qc ha with ⟨i,t,rfl,rfl⟩ | ⟨x,t,rfl,rfl⟩
  ·rcases qc hb with ⟨j,u,rfl,e⟩ | ⟨y,u,rfl,e⟩
   ·injection e with e1 _;rw [e1]
   ·exact nomatch e
  ·rcases qc hb with ⟨j,u,rfl,e⟩ | ⟨y,u,rfl,e⟩
   ·exact nomatch e
   ·injection e with e1 _;rw [e1]
 byValue:=fun k v h=>by
  rcases qc h with ⟨i,t,rfl,rfl⟩ | ⟨x,t,rfl,rfl⟩ <;> rfl
 pyHash:=fun hv h=>by
  rcases qc hv with ⟨i,t,rfl,rfl⟩ | ⟨x,t,rfl,rfl⟩
  ·exact wpAny_pyHash_int h
  ·exact wpAny_pyHash_str h
 eqBool:=fun hu hv h=>by
  rcases qc hu with ⟨i,t,rfl,rfl⟩ | ⟨x,t,rfl,rfl⟩
  ·rcases qc hv with ⟨j,u,rfl,rfl⟩ | ⟨y,u,rfl,rfl⟩
   ·rw [z7n] at h;exact wpAny_eqBool_int h
   ·rw [z7m] at h;exact SeqAt.EqAt.int_str i t y u _ _ _ _ h
  ·rcases qc hv with ⟨j,u,rfl,rfl⟩ | ⟨y,u,rfl,rfl⟩
   ·rw [z7l] at h;exact SeqAt.EqAt.str_int x t j u _ _ _ _ h
   ·rw [z7k] at h;exact wpAny_eqBool_str h
 «strs»:=fun k x t v h=>by
  rcases qc h with ⟨i,u,rfl,e⟩ | ⟨y,u,rfl,e⟩
  ·exact nomatch e
  ·injection e with e1 _
   subst e1
   cases v <;> rfl
theorem z0l (prog:Program) (w:World) (i:Int) (t:Tok):(zK prog w).is (.inl i) (.int i t)=true:=JC i t
theorem z0k (prog:Program) (w:World) (x:Str) (t:Tok):(zK prog w).is (.inr x) (.str x t)=true:=JA x t
end L2
namespace L2
open PySem PySem.Spec PyProof.Rows
inductive V where
 | non | bl (b:Bool) | int (i:Int) | str (x:Str) | byt (b:Array UInt8) | flt (b:UInt64) | ref (a:Addr) | ty (n:String)
 deriving DecidableEq
def RelV:V→Value→Prop
 | .non,u=>u=Value.none
 | .bl b,u=>u=Value.bool b
 | .int i,u=>∃t,u=Value.int i t
 | .str x,u=>∃t,u=Value.str x t
 | .byt b,u=>∃t,u=Value.bytes b t
 | .flt b,u=>∃t,u=Value.float b t
 | .ref a,u=>u=Value.ref a
 | .ty n,u=>u=Value.type n
abbrev Vals:List V→List Value→Prop:=Paired RelV
theorem Vals.length {xs:List V} {us:List Value} (r:Vals xs us):xs.length=us.length:=Paired.length r
theorem Vals.get:∀{xs:List V} {us:List Value} {i:Nat} {x:V},Vals xs us→xs[i]?=some x→∃u,us[i]?=some u∧RelV x u
 | _,_,_,_,.nil,e=>by simp at e
 | _,_,0,_,.cons r _,e=>by simp at e;subst e;exact ⟨_,rfl,r⟩
 | _,_,i+1,x,.cons _ t,e=>by
  obtain ⟨u,h1,h2⟩:=Vals.get (i:=i) (x:=x) t (by simpa using e)
  exact ⟨u,by simpa using h1,h2⟩
theorem Vals.set {x:V} {u:Value} (r:RelV x u):∀{xs:List V} {us:List Value} (i:Nat),Vals xs us→Vals (xs.set i x) (us.set i u)
 | _,_,_,.nil=>.nil
 | _,_,0,.cons _ t=>.cons r t
 | _,_,i+1,.cons q t=>.cons q (Vals.set r i t)
theorem Vals.append:∀{xs ys:List V} {us ws:List Value},Vals xs us→Vals ys ws→Vals (xs++ys) (us++ws)
 | _,_,_,_,.nil,s=>s
 | _,_,_,_,.cons r t,s=>.cons r (Vals.append t s)
theorem Vals.take:∀{xs:List V} {us:List Value} (n:Nat),Vals xs us→Vals (xs.take n) (us.take n)
 | _,_,0,_=>.nil
 | _,_,_+1,.nil=>.nil
 | _,_,n+1,.cons r t=>.cons r (Vals.take n t)
theorem Vals.drop:∀{xs:List V} {us:List Value} (n:Nat),Vals xs us→Vals (xs.drop n) (us.drop n)
 | _,_,0,r=>r
 | _,_,_+1,.nil=>.nil
 | _,_,n+1,.cons _ t=>Vals.drop n t
def RelO:Option V→Option Value→Prop
 | some v,some u=>RelV v u
 | none,none=>True
 | _,_=>False
def KV {κ:Type}:List (κ × V)→List (κ × Value)→Prop:=Paired fun (p:κ × V) (q:κ × Value)=>p.1=q.1∧RelV p.2 q.2
noncomputable def kV:Key→V
 | .inl i=>.int i
 | .inr x=>.str x
inductive HO where
 | lst (xs:List V)
 | tup (xs:List V)
 | dK (kvs:List (Key × V)) | dT (kvs:List (List Key × V))
 | set (S:Int→Bool) (n:Nat)
 | ins (C dx:Addr) (fs:List (Str × V))
 | own (x:Addr)
 | xd (fs:List (Str × V))
 | met (f x:Addr)
 | rng (lo hi:Int)
 | frz (o:Obj) (u:HO)
 | tbl (ps:Array Value)
 | ext (φ:Heap→Prop)
abbrev Hp:=Addr→Option HO
noncomputable def upd (H:Hp) (a:Addr) (o:HO):Hp:=fun b=>if b=a then some o else H b
theorem z7 {H:Hp} {a:Addr} {o:HO}:upd H a o a=some o:=by unfold upd;rw [kA rfl]
theorem ze {H:Hp} {a b:Addr} {o:HO} (h:b≠a):upd H a o b=H b:=by unfold upd;rw [kz h]
theorem ZP {H:Hp} {a:Addr} {o u:HO}:upd (upd H a o) a u=upd H a u:=by
 funext b;unfold upd;split <;> rfl
theorem zD {H:Hp} {a b:Addr} {o u:HO} (h:H a=some o) (h':H b=some u) (d:o≠u):a≠b:=by
 intro e;subst e;rw [h] at h';exact d (kB h')
theorem zc {H:Hp} {a b:Addr} {o:HO} (h:H a=some o) (h':H b=none):a≠b:=by
 intro e;subst e;rw [h] at h';cases h'
section
variable (P:Program) (w:World)
def zZ (H:Hp) (h:Heap) (a:Addr):HO→Prop
 | .lst xs=>xs.length≤sizeLine∧∃(its:List Value) (n:Nat),Vals xs its∧h.get? a=some { cls:=.type "list",data:=.seq its.toArray n }
 | .tup xs=>xs.length≤sizeLine∧∃its:List Value,Vals xs its∧IsTup h a its.toArray
 | .dK kvs=>kvs.length≤sizeLine∧(a == sysModules)=false∧∃vs,KV kvs vs∧h.DictOf (zK P w) a vs
 | .dT kvs=>kvs.length≤sizeLine∧(a == sysModules)=false∧∃xs:List (List Key × Addr × Value),
   Paired (fun (p:List Key × V) (q:List Key × Addr × Value)=>p.1=q.1∧H q.2.1=some (.tup (p.1.map kV))∧RelV p.2 q.2.2) kvs xs∧
   ∃o es ep,h.get? a=some o∧o.ExactDict∧o.data=.dict es ep∧es.toList=xs.map (entryOfKey (tupleKind (zK P w)))∧(xs.map (·.1)).Nodup
 | .set S n=>h.SetOf (intKind P w) a S n
 | .ins C dx fs=>H dx=some (.own a)∧fs.length≤1000∧dx≠a∧h.get? a=some (PySem.W.instObj C dx)∧
   ∃mA,h.Ns1 dx mA∧(∀f,RelO (fs.lookup f) (mA f))∧PySem.Within mA (fs.map (·.1))
 | .own _=>∃o,h.get? a=some o
 | .xd fs=>∃mA,h.Ns1 a mA∧∀f,RelO (fs.lookup f) (mA f)
 | .rng lo hi=>∃t u v,h.get? a=some { cls:=.type "range",data:=.fields #[.int lo t,.int hi u,.int 1 v] }
 | .frz o u=>h.get? a=some o∧zZ H h a u
 | .tbl ps=>h.get? a=some { cls:=.none,data:=.fields ps }
 | .met f x=>h.get? a=some (PySem.W.methodObj (.ref f) (.ref x))
 | .ext φ=>φ h∧(∃o,h.get? a=some o)∧∀h1 h2:Heap,φ h1→(∀o,h1.get? a=some o→h2.get? a=some o)→φ h2
def HOk (H:Hp) (h:Heap):Prop:=∀a o,H a=some o→zZ P w H h a o
end
section
variable {P:Program} {w:World} {H H':Hp} {h h':Heap} {a:Addr} {o:HO}
theorem zZ.lt (x:zZ P w H h a o):a < h.objs.size:=by
 cases o with
 | lst xs=>obtain ⟨_,_,_,_,e⟩:=x;exact Heap.lt_size e
 | tup xs=>obtain ⟨_,_,_,p⟩:=x;exact p.lt
 | dK kvs=>obtain ⟨_,_,_,_,o,_,_,e,_⟩:=x;exact Heap.lt_size e
 | dT kvs=>obtain ⟨_,_,_,_,o,_,_,e,_⟩:=x;exact Heap.lt_size e
 | set S n=>obtain ⟨o,_,_,_,e,_⟩:=x;exact Heap.lt_size e
 | ins C dx fs=>obtain ⟨_,_,_,e,_⟩:=x;exact Heap.lt_size e
 | own y=>obtain ⟨_,e⟩:=x;exact Heap.lt_size e
 | xd fs=>obtain ⟨_,⟨_,_,_,e,_⟩,_⟩:=x;exact Heap.lt_size e
 | rng lo hi=>obtain ⟨_,_,_,e⟩:=x;exact Heap.lt_size e
 | frz ob u=>obtain ⟨e,_⟩:=x;exact Heap.lt_size e
 | tbl ps=>exact Heap.lt_size (show h.get? a=some _ from x)
 | met f y=>exact Heap.lt_size (show h.get? a=some _ from x)
 | ext φ=>obtain ⟨_,⟨_,e⟩,_⟩:=x;exact Heap.lt_size e
theorem Paired.mapP {α β:Type} {F G:α→β→Prop}:∀{l₁:List α} {l₂:List β},Paired F l₁ l₂→(∀a b,F a b→G a b)→Paired G l₁ l₂
 | _,_,.nil,_=>.nil
 | _,_,.cons r t,f=>.cons (f _ _ r) (Paired.mapP t f)
theorem zZ.stay (x:zZ P w H h a o) (k:∀b u,(b=a∨H b=some (.own a))→h.get? b=some u→h'.get? b=some u)
  (ho:∀b,H b=some (.own a)→H' b=some (.own a)) (ht:∀b xs,H b=some (.tup xs)→H' b=some (.tup xs)):zZ P w H' h' a o:=by
 induction o with
 | lst xs=>obtain ⟨z,its,n,r,e⟩:=x;exact ⟨z,its,n,r,k _ _ (.inl rfl) e⟩
 | tup xs=>obtain ⟨z,its,r,ob,e,c⟩:=x;exact ⟨z,its,r,ob,k _ _ (.inl rfl) e,c⟩
 | dK kvs=>obtain ⟨z,y,vs,r,ob,es,ep,e,c⟩:=x;exact ⟨z,y,vs,r,ob,es,ep,k _ _ (.inl rfl) e,c⟩
 | dT kvs=>
  obtain ⟨z,y,xs,r,ob,es,ep,e,c⟩:=x
  exact ⟨z,y,xs,Paired.mapP r fun p q z=>⟨z.1,ht _ _ z.2.1,z.2.2⟩,ob,es,ep,k _ _ (.inl rfl) e,c⟩
 | set S n=>obtain ⟨ob,es,ep,t,e,c⟩:=x;exact ⟨ob,es,ep,t,k _ _ (.inl rfl) e,c⟩
 | ins C dx fs=>
  obtain ⟨d,z,ne,e,mA,⟨od,es,ep,e2,c⟩,r⟩:=x
  exact ⟨ho _ d,z,ne,k _ _ (.inl rfl) e,mA,⟨od,es,ep,k _ _ (.inr d) e2,c⟩,r⟩
 | own y=>obtain ⟨ob,e⟩:=x;exact ⟨ob,k _ _ (.inl rfl) e⟩
 | xd fs=>obtain ⟨mA,⟨od,es,ep,e,c⟩,r⟩:=x;exact ⟨mA,⟨od,es,ep,k _ _ (.inl rfl) e,c⟩,r⟩
 | rng lo hi=>obtain ⟨t,u,v,e⟩:=x;exact ⟨t,u,v,k _ _ (.inl rfl) e⟩
 | frz ob u ih=>obtain ⟨e,q⟩:=x;exact ⟨k _ _ (.inl rfl) e,ih q⟩
 | tbl ps=>
  have e:h.get? a=some { cls:=.none,data:=.fields ps }:=x
  show h'.get? a=some { cls:=.none,data:=.fields ps }
  exact k a _ (.inl rfl) e
 | met f y=>
  have e:h.get? a=some (PySem.W.methodObj (.ref f) (.ref y)):=x
  show h'.get? a=some (PySem.W.methodObj (.ref f) (.ref y))
  exact k a _ (.inl rfl) e
 | ext φ=>obtain ⟨p,⟨o,e⟩,st⟩:=x;exact ⟨st _ _ p fun o q=>k _ _ (.inl rfl) q,⟨o,k _ _ (.inl rfl) e⟩,st⟩
theorem HOk.lt (x:HOk P w H h) (e:H a=some o):a < h.objs.size:=(x a o e).lt
theorem HOk.fresh (x:HOk P w H h) (e:h.objs.size≤a):H a=none:=by
 cases q:H a with
 | none=>rfl
 | some u=>exact absurd (kL (x.lt q) e) (Nat.lt_irrefl _)
theorem HOk.kept (x:HOk P w H h) (k:∀b u,h.get? b=some u→h'.get? b=some u):HOk P w H h':=fun a o e=>
 (x a o e).stay (fun b u _ q=>k b u q) (fun _ q=>q) fun _ _ q=>q
theorem HOk.laid (x:HOk P w H h) (k:∀b u,h.get? b=some u→h'.get? b=some u) (hp:h.objs.size≤a) (new:zZ P w (upd H a o) h' a o):HOk P w (upd H a o) h':=fun b u e=>by
 have hn:=x.fresh hp
 by_cases hb:b=a
 ·subst hb;rw [z7] at e;cases e;exact new
 ·rw [ze hb] at e
  exact (x b u e).stay (fun c v _ q=>k c v q) (fun c q=>by rw [ze (zc q hn)];exact q) fun c xs q=>by rw [ze (zc q hn)];exact q
end
def Rd (H:Hp) (a:Addr) (u:HO):Prop:=H a=some u∨∃o,H a=some (.frz o u)
theorem Rd.ok {P:Program} {w:World} {H:Hp} {h:Heap} {a:Addr} {u:HO} (r:Rd H a u) (x:HOk P w H h):zZ P w H h a u:=by
 rcases r with r | ⟨o,r⟩
 ·exact x a u r
 ·obtain ⟨_,q⟩:=x a _ r
  exact q
def Mut:Option HO→Prop
 | some (.lst _)=>True
 | some (.dK _)=>True
 | some (.dT _)=>True
 | some (.set _ _)=>True
 | some (.ins _ _ _)=>True
 | some (.ext _)=>True
 | _=>False
section
variable {P:Program} {w:World} {H:Hp} {h h':Heap} {x e:Addr} {o':HO}
theorem HOk.write (ok:HOk P w H h) (mu:Mut (H x)) (he:e=x∨H e=some (.own x)) (k:∀b u,b≠e→h.get? b=some u→h'.get? b=some u) (heo:∃u,h'.get? e=some u)
  (new:zZ P w (upd H x o') h' x o'):HOk P w (upd H x o') h':=fun b u q=>by
 have nown:∀c y,H c=some (.own y)→c≠x:=fun c y r z=>by subst z;rw [r] at mu;exact mu
 have ntup:∀c xs,H c=some (.tup xs)→c≠x:=fun c xs r z=>by subst z;rw [r] at mu;exact mu
 by_cases hb:b=x
 ·subst hb;rw [z7] at q;cases q;exact new
 ·rw [ze hb] at q
  by_cases hbe:b=e
  ·have q':H b=some (.own x):=by
    rcases he with z | z
    ·exact absurd (hbe.trans z) hb
    ·rw [hbe];exact z
   rw [q] at q';cases q'
   obtain ⟨v,hv⟩:=heo
   exact ⟨v,by rw [hbe];exact hv⟩
  ·refine (ok b u q).stay (fun c v hc r=>k c v ?_ r) (fun c r=>by rw [ze (nown c b r)];exact r) fun c xs r=>by rw [ze (ntup c xs r)];exact r
   rcases hc with rfl | hc
   ·exact hbe
   ·rintro rfl
    rcases he with z | z
    ·exact nown c b hc z
    ·rw [hc] at z;cases z;exact hb rfl
end
structure Un (fs ex:List Addr) (H H':Hp) (h h':Heap):Prop where
 keep:∀b o,h.get? b=some o→H b=none→b∉fs→b∉ex→h'.get? b=some o
 slot:∀b o,h.get? b=some o→H b=none→b∈fs→b∉ex→∃sl,h'.get? b=some { o with slots:=sl }
 free:∀b o,h.get? b=some o→H b=none→b∉ex→H' b=none
 there:∀b o,h.get? b=some o→b∉ex→∃o',h'.get? b=some o'
 tups:∀b xs,H b=some (.tup xs)→H' b=some (.tup xs)
 frzs:∀b o u,H b=some (.frz o u)→H' b=some (.frz o u)
 tbls:∀b ps,H b=some (.tbl ps)→∃more,H' b=some (.tbl (ps++more))
section
variable {fs fs' ex ex':List Addr} {H H1 H2:Hp} {h h1 h2 h':Heap} {a x e:Addr} {o:HO}
theorem Un.any (u:Un fs ex H H1 h h1) {b:Addr} {ob:Obj} (q:h.get? b=some ob) (n:H b=none) (hx:b∉ex):∃sl,h1.get? b=some { ob with slots:=sl }:=by
 by_cases hb:b∈fs
 ·exact u.slot b ob q n hb hx
 ·exact ⟨ob.slots,u.keep b ob q n hb hx⟩
theorem Un.kept (k:∀b u,h.get? b=some u→h'.get? b=some u):Un fs ex H H h h':=
 ⟨fun b ob q _ _ _=>k b ob q,fun b ob q _ _ _=>⟨ob.slots,k b ob q⟩,fun _ _ _ n _=>n,fun b ob q _=>⟨ob,k b ob q⟩,fun _ _ q=>q,fun _ _ _ q=>q,fun _ ps q=>⟨#[],by rw [q];simp⟩⟩
theorem Un.refl:Un fs ex H H h h:=Un.kept fun _ _ q=>q
theorem Un.laid (k:∀b u,h.get? b=some u→h'.get? b=some u) (hp:h.objs.size≤a) (hn:H a=none):Un fs ex H (upd H a o) h h' where
 keep:=fun b u q _ _ _=>k b u q
 slot:=fun b u q _ _ _=>⟨u.slots,k b u q⟩
 free:=fun b u q n _=>by rw [ze (Nat.ne_of_lt (kL (Heap.lt_size q) hp))];exact n
 there:=fun b u q _=>⟨u,k b u q⟩
 tups:=fun b xs q=>by rw [ze (zc q hn)];exact q
 frzs:=fun b u xs q=>by rw [ze (zc q hn)];exact q
 tbls:=fun b ps q=>⟨#[],by rw [ze (zc q hn),q];simp⟩
theorem Un.write (mu:Mut (H x)) (he:e=x∨H e=some (.own x)) (k:∀b u,b≠e→h.get? b=some u→h'.get? b=some u) (heo:∃u,h'.get? e=some u):Un fs ex H (upd H x o) h h':=by
 have hx:∀b,H b=none→b≠x:=fun b n z=>by subst z;rw [n] at mu;exact mu
 have hb:∀b,H b=none→b≠e:=fun b n z=>by
  subst z
  rcases he with r | r
  ·exact hx b n r
  ·rw [n] at r;cases r
 have hm:∀b u,H b=some u→¬Mut (some u)→b≠x:=fun b u q nm z=>by subst z;rw [q] at mu;exact nm mu
 refine ⟨fun b u q n _ _=>k b u (hb b n) q,fun b u q n _ _=>⟨u.slots,k b u (hb b n) q⟩,fun b u q n _=>by rw [ze (hx b n)];exact n,fun b u q _=>?_,
  fun b xs q=>by rw [ze (hm b _ q fun z=>z)];exact q,fun b u xs q=>by rw [ze (hm b _ q fun z=>z)];exact q,fun b ps q=>⟨#[],by rw [ze (hm b _ q fun z=>z),q];simp⟩⟩
 by_cases hbe:b=e
 ·subst hbe;exact heo
 ·exact ⟨u,k b u hbe q⟩
end
noncomputable def trk (h:Heap) (H:Hp):List Addr:=(List.range h.objs.size).filter fun a=>(H a).isSome
noncomputable def hidT (h:Heap) (H:Hp):Heap:=PySem.W.hideAll h (trk h H)
theorem z2M (h:Heap) (H:Hp):(hidT h H).objs.size=h.objs.size:=PySem.W.hideAll_size _ _
theorem z49 {h:Heap} {H:Hp} {b:Addr} {o:Obj} (e:h.get? b=some o) (n:H b=none):(hidT h H).get? b=some o:=
 PySem.W.hideAll_get _ e fun hm=>by
  have q:(H b).isSome=true:=(List.mem_filter.mp hm).2
  rw [n] at q;simp at q
theorem z5z {h:Heap} {H:Hp} {b:Addr} {o:Obj} (e:(hidT h H).get? b=some o):h.get? b=some o∧H b=none:=by
 have e':h.get? b=some o:=PySem.W.of_hideAll (trk h H) e
 refine ⟨e',?_⟩
 cases q:H b with
 | none=>rfl
 | some x=>
  have hm:b∈trk h H:=List.mem_filter.mpr ⟨List.mem_range.mpr (Heap.lt_size e'),by simp [q]⟩
  have z:(hidT h H).get? b=none:=PySem.W.hideAll_none (trk h H) hm
  rw [z] at e;cases e
end L2
namespace L2
open PySem PySem.Spec PyProof.Rows
structure Mod (K:ky) (mg:Str→Option Value) (base:Heap):Prop where
 kin:K.In base
 glob:base.Ns mainGlobals mg
 blt:∃mb,base.Ns builtinsNs mb∧∀x:Str,x≠"__name__"→mb x=bootBuiltins x
 nolimit:base.NoLimit
structure Cx where
 prog:Program
 w:World
 K:ky
 mg:Str→Option Value
 base:Heap
 A:Around
 N:List Str
 s₀:Shared
 H₀:Hp
 env:Env
 outer:List Env
 stack:List Env
 ex:List Addr
 fn:Str→Bool
 calm:Bool
 pn:List (Addr × Obj)
 xe:Value→Shared→Prop
noncomputable def frs (l:List Env):List Addr:=l.filterMap (·.frame)
noncomputable abbrev Cx.fs (X:Cx):List Addr:=frs X.outer
def Vis (sc:Scope) (x:Str):Prop:=sc.names.lookup x=some .local∨sc.names.lookup x=some .cell∨sc.names.lookup x=some .free
def Loc (sc:Scope) (x:Str):Prop:=sc.names.lookup x=some .local∨sc.names.lookup x=some .cell
def Look (env:Env) (h:Heap) (m:Str→Option Value) (x:Str) (u:Value):Prop:=
 (env.kindOf x=some .local∧m x=some u)∨((env.kindOf x=some .cell∨env.kindOf x=some .free)∧∃c,env.cells.lookup x=some c∧h.IsCell c (some u))
structure Cx.Ok (X:Cx):Prop where
 mod:Mod X.K X.mg X.base
 kind:X.env.scope.kind=.function
 glob:X.env.globals=mainGlobals
 blt:X.env.builtins=builtinsNs
 above:X.s₀.heap.objs.size≤X.env.locals
 inj:∀x y c,X.env.cells.lookup x=some c→X.env.cells.lookup y=some c→x=y
 has:∀x,(X.env.kindOf x=some .cell∨X.env.kindOf x=some .free)→∃c,X.env.cells.lookup x=some c
 cab:∀x c,X.fn x=true→X.env.cells.lookup x=some c→X.s₀.heap.objs.size≤c
 hd:X.calm=true→X.A.handled=none
 frames:X.A.frames=some X.stack
 stk:X.stack=X.outer∨(X.stack=X.env :: X.outer∧X.env.frame=some X.env.locals)
 exf:∀b∈X.ex,b≠X.env.locals∧∀x c,X.env.cells.lookup x=some c→c≠b
 bs:∀b o,X.base.get? b=some o→X.s₀.heap.get? b=some o∧X.H₀ b=none
 bsz:X.base.objs.size≤X.s₀.heap.objs.size
 noex:∀b o,X.base.get? b=some o→b∉X.ex
 exfs:∀b∈X.ex,b∉X.fs
 funs:X.s₀.heap.FunFrames X.base X.outer
 frf:∀b∈X.fs,X.H₀ b=none
structure Inv (X:Cx) (pins:List (Addr × Obj)) (σ:List (Option V)) (H:Hp) (s:Shared):Prop where
 ok:X.Ok
 os:s.os=X.s₀.os
 bare:AllBare s.gens
 base:Un X.fs X.ex X.H₀ H X.s₀.heap s.heap
 loc:∃m,s.heap.Ns X.env.locals m∧∀(i:Nat) (x:Str) (v:V),X.N[i]?=some x→σ[i]?=some (some v)→Vis X.env.scope x→∃u,RelV v u∧Look X.env s.heap m x u
 cell:∀x c,X.env.cells.lookup x=some c→∃v,s.heap.IsCell c v
 free:H X.env.locals=none
 freeC:∀x c,X.env.cells.lookup x=some c→H c=none
 pin:∀p∈X.pn++pins,s.heap.get? p.1=some p.2∧H p.1=none∧p.1≠X.env.locals∧p.1∉X.fs∧∀v,p.2.data≠.cell v
 hok:HOk X.prog X.w H s.heap
 len:σ.length=X.N.length
section
variable {X:Cx} {pins:List (Addr × Obj)} {σ:List (Option V)} {H H':Hp} {s:Shared} {h':Heap}
theorem Cx.Ok.nofr (ok:X.Ok) {b:Addr} {o:Obj} (e:X.base.get? b=some o):b∉X.fs:=fun hb=>by
 have:=(ok.funs.mem hb).1
 rw [e] at this;cases this
theorem Inv.bs (I:Inv X pins σ H s):∀b o,X.base.get? b=some o→s.heap.get? b=some o∧H b=none:=fun b o e=>
 ⟨I.base.keep b o (I.ok.bs b o e).1 (I.ok.bs b o e).2 (I.ok.nofr e) (I.ok.noex b o e),I.base.free b o (I.ok.bs b o e).1 (I.ok.bs b o e).2 (I.ok.noex b o e)⟩
theorem Inv.bk (I:Inv X pins σ H s):∀b o,X.base.get? b=some o→s.heap.get? b=some o:=fun b o e=>(I.bs b o e).1
theorem Inv.mod (I:Inv X pins σ H s):Mod X.K X.mg X.base:=I.ok.mod
theorem Inv.kIn (I:Inv X pins σ H s):X.K.In s.heap:=I.ok.mod.kin.keeps I.bk
theorem Inv.fr (I:Inv X pins σ H s):∃m,Fr X.base X.env.locals s.heap m:=
 let ⟨m,hn,_⟩:=I.loc
 ⟨m,hn,I.bk,ku I.ok.bsz I.ok.above⟩
theorem Inv.lt (I:Inv X pins σ H s):X.env.locals < s.heap.objs.size:=let ⟨_,hn,_⟩:=I.loc;hn.lt
theorem Inv.sz (I:Inv X pins σ H s):X.s₀.heap.objs.size≤s.heap.objs.size:=ku I.ok.above (Nat.le_of_lt I.lt)
theorem Inv.nofs (I:Inv X pins σ H s) {a:Addr} (h:s.heap.objs.size≤a):a∉X.fs:=fun hb=>by
 obtain ⟨_,o,ho,_⟩:=I.ok.funs.mem hb
 exact absurd (kL (Heap.lt_size ho) (ku I.sz h)) (Nat.lt_irrefl _)
theorem Inv.cne (I:Inv X pins σ H s):∀x c,X.env.cells.lookup x=some c→c≠X.env.locals:=fun x c e z=>by
 obtain ⟨v,o,ho,hd⟩:=I.cell x c e
 obtain ⟨m,⟨o',es,ep,ho',hd',_⟩,_⟩:=I.loc
 rw [z,ho'] at ho;cases ho;rw [hd'] at hd;cases hd
theorem Inv.funs (I:Inv X pins σ H s):s.heap.FunFrames X.base X.outer:=by
 have all:∀(l:List Env),(∀b∈frs l,b∈X.fs)→X.s₀.heap.FunFrames X.base l→s.heap.FunFrames X.base l:=by
  intro l
  induction l with
  | nil=>intro _ _;trivial
  | cons env r ih=>
   intro hs hl
   obtain ⟨hk,⟨L,o,hf,hn,ho,hd⟩,hr⟩:=hl
   have hL:L∈X.fs:=hs L (by unfold frs;rw [List.filterMap_cons,hf];exact kP)
   obtain ⟨sl,e⟩:=I.base.slot L o ho (I.ok.frf L hL) hL fun z=>I.ok.exfs L z hL
   exact ⟨hk,⟨L,_,hf,hn,e,hd⟩,ih (fun b hb=>hs b (by unfold frs;rw [List.filterMap_cons,hf];exact kQ _ hb)) hr⟩
 exact all X.outer (fun _ hb=>hb) I.ok.funs
theorem Inv.stack (I:Inv X pins σ H s):s.heap.FunFrames X.base X.stack:=by
 rcases I.ok.stk with e | ⟨e,hf⟩
 ·rw [e];exact I.funs
 ·rw [e]
  obtain ⟨m,hn,_⟩:=I.loc
  refine .cons (by rw [I.ok.kind];decide) hf hn ?_ I.funs
  exact Heap.get?_none_of_le (ku I.ok.bsz I.ok.above)
theorem Inv.stkSub (I:Inv X pins σ H s):∀b∈frs X.stack,b∈X.env.locals :: X.fs:=fun b hb=>by
 rcases I.ok.stk with e | ⟨e,hf⟩
 ·rw [e] at hb;exact kQ _ hb
 ·rw [e] at hb
  unfold frs at hb
  rw [List.filterMap_cons,hf] at hb
  exact hb
theorem Inv.stkFree (I:Inv X pins σ H s):∀b∈frs X.stack,H b=none:=fun b hb=>by
 rcases kD.mp (I.stkSub b hb) with e | hb
 ·rw [e];exact I.free
 ·obtain ⟨_,o,ho,_⟩:=I.ok.funs.mem hb
  exact I.base.free b o ho (I.ok.frf b hb) fun z=>I.ok.exfs b z hb
theorem Inv.step {g':Array GenState} {t':Nat} {d':Drawn} {ch:List Addr} (I:Inv X pins σ H s)
  (hch:∀b∈ch,(b∈X.ex∨X.s₀.heap.objs.size≤b)∧b≠X.env.locals∧(∀x c,X.env.cells.lookup x=some c→c≠b)∧∀p∈X.pn++pins,p.1≠b)
  (keep:∀b o,b≠X.env.locals→b∉X.fs→b∉ch→s.heap.get? b=some o→H b=none→h'.get? b=some o)
  (slot:∀b o,b≠X.env.locals→b∈X.fs→b∉ch→s.heap.get? b=some o→H b=none→∃sl,h'.get? b=some { o with slots:=sl }) (free:∀b o,b∉ch→s.heap.get? b=some o→H b=none→H' b=none)
  (there:∀b o,b∉ch→s.heap.get? b=some o→∃o',h'.get? b=some o')
  (tups:∀b xs,H b=some (.tup xs)→H' b=some (.tup xs)) (frzs:∀b o u,H b=some (.frz o u)→H' b=some (.frz o u)) (tbls:∀b ps,H b=some (.tbl ps)→∃more,H' b=some (.tbl (ps++more)))
  (ns:∀m,s.heap.Ns X.env.locals m→h'.Ns X.env.locals m) (hok:HOk X.prog X.w H' h') (hg:AllBare g'):
  Inv X pins σ H' { s with heap:=h',gens:=g',drawn:=d',toks:=t' }:=by
 have neL:∀b o,X.s₀.heap.get? b=some o→b≠X.env.locals:=fun b o e=>Nat.ne_of_lt (kL (Heap.lt_size e) I.ok.above)
 have neC:∀b o,X.s₀.heap.get? b=some o→b∉X.ex→b∉ch:=fun b o e hx hb=>by
  rcases (hch b hb).1 with z | z
  ·exact hx z
  ·exact absurd (kL (Heap.lt_size e) z) (Nat.lt_irrefl _)
 have cellK:∀x c,X.env.cells.lookup x=some c→∀v,s.heap.IsCell c v→h'.IsCell c v:=fun x c e v ⟨o,ho,hd⟩=>by
  have nch:c∉ch:=fun z=>(hch c z).2.2.1 x c e rfl
  by_cases hc:c∈X.fs
  ·obtain ⟨sl,q⟩:=slot c o (I.cne x c e) hc nch ho (I.freeC x c e)
   exact ⟨_,q,hd⟩
  ·exact ⟨o,keep c o (I.cne x c e) hc nch ho (I.freeC x c e),hd⟩
 refine ⟨I.ok,I.os,hg,⟨fun b o e n hb hx=>?_,fun b o e n hb hx=>?_,fun b o e n hx=>?_,fun b o e hx=>?_,fun b xs e=>tups b xs (I.base.tups b xs e),fun b o xs e=>frzs b o xs (I.base.frzs b o xs e),fun b ps e=>?_⟩,?_,fun x c e=>?_,?_,fun x c e=>?_,fun p hp=>?_,hok,I.len⟩
 ·exact keep b o (neL b o e) hb (neC b o e hx) (I.base.keep b o e n hb hx) (I.base.free b o e n hx)
 ·obtain ⟨sl,e1⟩:=I.base.slot b o e n hb hx
  obtain ⟨sl',e2⟩:=slot b _ (neL b o e) hb (neC b o e hx) e1 (I.base.free b o e n hx)
  exact ⟨sl',e2⟩
 ·obtain ⟨o',e1⟩:=I.base.there b o e hx
  exact free b o' (neC b o e hx) e1 (I.base.free b o e n hx)
 ·obtain ⟨o',e1⟩:=I.base.there b o e hx
  exact there b o' (neC b o e hx) e1
 ·obtain ⟨m1,e1⟩:=I.base.tbls b ps e
  obtain ⟨m2,e2⟩:=tbls b _ e1
  exact ⟨m1++m2,by rw [e2,Array.append_assoc]⟩
 ·obtain ⟨m,hn,hl⟩:=I.loc
  refine ⟨m,ns m hn,fun i x v e1 e2 e3=>?_⟩
  obtain ⟨u,r,l⟩:=hl i x v e1 e2 e3
  refine ⟨u,r,?_⟩
  rcases l with l | ⟨k,c,e,z⟩
  ·exact .inl l
  ·exact .inr ⟨k,c,e,cellK x c e _ z⟩
 ·obtain ⟨v,z⟩:=I.cell x c e
  exact ⟨v,cellK x c e v z⟩
 ·obtain ⟨m,⟨o,_,_,ho,_⟩,_⟩:=I.loc
  exact free _ o (fun z=>(hch _ z).2.1 rfl) ho I.free
 ·obtain ⟨v,o,ho,hd⟩:=I.cell x c e
  exact free c o (fun z=>(hch c z).2.2.1 x c e rfl) ho (I.freeC x c e)
 ·obtain ⟨e,n,ne,nf,d⟩:=I.pin p hp
  have nch:p.1∉ch:=fun z=>(hch p.1 z).2.2.2 p hp rfl
  exact ⟨keep p.1 p.2 ne nf nch e n,free p.1 p.2 nch e n,ne,nf,d⟩
theorem Inv.un {t':Nat} (I:Inv X pins σ H s) (u:Un X.fs [] H H' s.heap h') (hok:HOk X.prog X.w H' h'):Inv X pins σ H' { s with heap:=h',toks:=t' }:=by
 obtain ⟨m,⟨o,es,ep,ho,r⟩,_⟩:=id I.loc
 obtain ⟨sl,hL⟩:=u.any ho I.free (by simp)
 exact I.step (g':=s.gens) (d':=s.drawn) (ch:=[]) (fun _ z=>nomatch z) (fun b o _ hb _ e n=>u.keep b o e n hb (by simp)) (fun b o _ hb _ e n=>u.slot b o e n hb (by simp)) (fun b o _ e n=>u.free b o e n (by simp)) (fun b o _ e=>u.there b o e (by simp)) u.tups u.frzs u.tbls (fun m' hm=>by
  obtain ⟨o',es',ep',ho',r'⟩:=hm
  rw [ho] at ho';cases ho'
  exact ⟨_,es',ep',hL,r'⟩) hok I.bare
theorem Inv.call {g':Array GenState} {t':Nat} {d':Drawn} {ch:List Addr} (I:Inv X pins σ H s) (u:Un (frs X.stack) ch H H' s.heap h') (hok:HOk X.prog X.w H' h') (hg:AllBare g')
  (hch:∀b∈ch,(b∈X.ex∨X.s₀.heap.objs.size≤b)∧b≠X.env.locals∧(∀x c,X.env.cells.lookup x=some c→c≠b)∧∀p∈X.pn++pins,p.1≠b):
  Inv X pins σ H' { s with heap:=h',gens:=g',drawn:=d',toks:=t' }:=by
 obtain ⟨m,⟨o,es,ep,ho,r⟩,_⟩:=id I.loc
 obtain ⟨sl,hL⟩:=u.any ho I.free fun z=>(hch _ z).2.1 rfl
 exact I.step (ch:=ch) hch (fun b o hL hb hc e n=>u.keep b o e n (fun z=>(kD.mp (I.stkSub b z)).elim hL hb) hc) (fun b o _ _ hc e n=>u.any e n hc) (fun b o hc e n=>u.free b o e n hc) (fun b o hc e=>u.there b o e hc) u.tups u.frzs u.tbls (fun m' hm=>by
  obtain ⟨o',es',ep',ho',r'⟩:=hm
  rw [ho] at ho';cases ho'
  exact ⟨_,es',ep',hL,r'⟩) hok hg
theorem Inv.turned {t':Nat} {it:Addr} (I:Inv X pins σ H s) (k:∀b o,b≠it→s.heap.get? b=some o→h'.get? b=some o) (hn:H it=none) (hL:it≠X.env.locals)
  (h1:it∈X.ex∨X.s₀.heap.objs.size≤it) (h2:∀x c,X.env.cells.lookup x=some c→c≠it) (h3:∀p∈X.pn++pins,p.1≠it):Inv X pins σ H { s with heap:=h',toks:=t' }:=by
 have nit:∀b u,H b=some u→b≠it:=fun b u e z=>by rw [z,hn] at e;cases e
 refine I.step (g':=s.gens) (d':=s.drawn) (ch:=[it]) (fun b hb=>?_) (fun b o _ _ hc e _=>k b o (fun z=>hc (by simp [z])) e) (fun b o _ _ hc e _=>⟨o.slots,k b o (fun z=>hc (by simp [z])) e⟩) (fun _ _ _ _ n=>n)
  (fun b o hc e=>⟨o,k b o (fun z=>hc (by simp [z])) e⟩) (fun _ _ e=>e) (fun _ _ _ e=>e) (fun b ps e=>⟨#[],by rw [e];simp⟩) (fun m hm=>?_) (fun b u e=>?_) I.bare
 ·have e:b=it:=by simpa using hb
  subst e
  exact ⟨h1,hL,h2,h3⟩
 ·obtain ⟨o,es,ep,ho,r⟩:=hm
  exact ⟨o,es,ep,k _ o (Ne.symm hL) ho,r⟩
 ·refine (I.hok b u e).stay (fun c v hc q=>k c v ?_ q) (fun _ q=>q) fun _ _ q=>q
  rcases hc with z | z
  ·rw [z];exact nit b u e
  ·exact nit c _ z
theorem Inv.tok (I:Inv X pins σ H s) (t:Nat):Inv X pins σ H { s with toks:=t }:=I.un (h':=s.heap) (t':=t) Un.refl I.hok
theorem Inv.kept {t':Nat} (I:Inv X pins σ H s) (k:∀b u,s.heap.get? b=some u→h'.get? b=some u):Inv X pins σ H { s with heap:=h',toks:=t' }:=I.un (Un.kept k) (I.hok.kept k)
theorem Inv.laid {a:Addr} {o:HO} {t':Nat} (I:Inv X pins σ H s) (k:∀b u,s.heap.get? b=some u→h'.get? b=some u) (hp:s.heap.objs.size≤a) (new:zZ X.prog X.w (upd H a o) h' a o):
  Inv X pins σ (upd H a o) { s with heap:=h',toks:=t' }:=I.un (Un.laid k hp (I.hok.fresh hp)) (I.hok.laid k hp new)
theorem Inv.write {x e:Addr} {o:HO} {t':Nat} (I:Inv X pins σ H s) (mu:Mut (H x)) (he:e=x∨H e=some (.own x)) (k:∀b u,b≠e→s.heap.get? b=some u→h'.get? b=some u) (heo:∃u,h'.get? e=some u)
  (new:zZ X.prog X.w (upd H x o) h' x o):Inv X pins σ (upd H x o) { s with heap:=h',toks:=t' }:=I.un (Un.write mu he k heo) (I.hok.write mu he k heo new)
theorem Inv.pins_of {pins':List (Addr × Obj)} (I:Inv X pins σ H s) (h:∀p∈pins',s.heap.get? p.1=some p.2∧H p.1=none∧p.1≠X.env.locals∧p.1∉X.fs∧∀v,p.2.data≠.cell v):Inv X pins' σ H s:=
 ⟨I.ok,I.os,I.bare,I.base,I.loc,I.cell,I.free,I.freeC,fun p hp=>(kR.mp hp).elim (fun z=>I.pin p (kN _ z)) (h p),I.hok,I.len⟩
theorem QO {N:List Str} (hN:N.Nodup) {i j:Nat} {x:Str} (a:N[i]?=some x) (b:N[j]?=some x):i=j:=by
 obtain ⟨h1,e1⟩:=kf.mp a
 obtain ⟨h2,e2⟩:=kf.mp b
 exact (List.getElem_inj hN).mp (e1.trans e2.symm)
theorem J7 {M:Model} {A:Around} {E:Value→Shared→Prop} {i:Nat} {x:Str} {v:V} {u:Value} {Q:Unit→Shared→Prop} (I:Inv X pins σ H s) (hN:X.N.Nodup) (hi:X.N[i]?=some x) (hx:Loc X.env.scope x) (r:RelV v u)
  (h:∀s',Inv X pins (σ.set i (some v)) H s'→(∃a,Heap.SameBut a s.heap s'.heap∧(a=X.env.locals∨X.env.cells.lookup x=some a))→Q () s') (hf:X.fn x=true∨X.env.scope.names.lookup x=some .local:=by first | exact .inl rfl | exact .inr rfl | assumption):wpAny M A (storeName X.env x u) Q E s:=by
 obtain ⟨m,hn,hl⟩:=id I.loc
 have hcls:(X.env.scope.kind == .class||(X.env.scope.kind == .module&&X.env.locals != X.env.globals))=false:=by rw [I.ok.kind];rfl
 have hiσ:i < σ.length:=by rw [I.len];exact (kf.mp hi).1
 have cne:=I.cne
 have tracked:∀{a:Addr} {h':Heap},(∃o,s.heap.get? a=some o∧H a=none)→Heap.SameBut a s.heap h'→HOk X.prog X.w H h':=fun {a h'} ha hs b ob e=>by
  obtain ⟨_,_,hfree⟩:=ha
  refine (I.hok b ob e).stay (fun c w' hc q=>(hs.2 c ?_).trans q) (fun _ q=>q) fun _ _ q=>q
  rintro rfl
  rcases hc with rfl | hc
  ·rw [hfree] at e;cases e
  ·rw [hfree] at hc;cases hc
 rcases hx with hk | hk
 ·refine wpAny_storeName_local hk hn (fun h' hn' hs=>?_) hcls
  obtain ⟨oL,_,_,hoL,_⟩:=id hn
  refine h _ ⟨I.ok,I.os,I.bare,⟨fun b o e n hb hx=>?_,fun b o e n hb hx=>?_,I.base.free,fun b o e hx=>?_,I.base.tups,I.base.frzs,I.base.tbls⟩,⟨_,hn',fun j y v' e1 e2 e3=>?_⟩,fun y c e=>?_,I.free,I.freeC,fun p hp=>?_,tracked ⟨oL,hoL,I.free⟩ hs,by simpa using I.len⟩ ⟨_,hs,.inl rfl⟩
  ·exact (hs.2 b (Nat.ne_of_lt (kL (Heap.lt_size e) I.ok.above))).trans (I.base.keep b o e n hb hx)
  ·obtain ⟨sl,e1⟩:=I.base.slot b o e n hb hx
   exact ⟨sl,(hs.2 b (Nat.ne_of_lt (kL (Heap.lt_size e) I.ok.above))).trans e1⟩
  ·obtain ⟨o',e1⟩:=I.base.there b o e hx
   exact ⟨o',(hs.2 b (Nat.ne_of_lt (kL (Heap.lt_size e) I.ok.above))).trans e1⟩
  ·by_cases hj:j=i
   ·subst hj
    rw [hi] at e1;cases e1
    rw [List.getElem?_set_self hiσ] at e2
    cases e2
    exact ⟨u,r,.inl ⟨hk,by simp⟩⟩
   ·rw [List.getElem?_set_ne (Ne.symm hj)] at e2
    obtain ⟨u',r',q⟩:=hl j y v' e1 e2 e3
    refine ⟨u',r',?_⟩
    rcases q with ⟨k,e⟩ | ⟨k,c,e,z⟩
    ·refine .inl ⟨k,?_⟩
     have:y≠x:=fun e=>hj (QO hN e1 (e▸hi))
     simp [this,e]
    ·exact .inr ⟨k,c,e,z.sameBut hs (cne y c e)⟩
  ·obtain ⟨w',z⟩:=I.cell y c e
   exact ⟨w',z.sameBut hs (cne y c e)⟩
  ·obtain ⟨e,n,ne,nf,d⟩:=I.pin p hp
   exact ⟨(hs.2 p.1 ne).trans e,n,ne,nf,d⟩
 ·have hfn:X.fn x=true:=by
   rcases hf with z | z
   ·exact z
   ·rw [z] at hk;cases hk
  obtain ⟨c,hc⟩:=I.ok.has x (.inl hk)
  obtain ⟨w',z⟩:=I.cell x c hc
  refine wpAny_storeName_cell I.ok.kind hk hc z (fun h' hc' hs=>?_)
  obtain ⟨oc,hoc,hocd⟩:=id z
  refine h { s with heap:=h' } ⟨I.ok,I.os,I.bare,⟨fun b o e n hb hx=>?_,fun b o e n hb hx=>?_,I.base.free,fun b o e hx=>?_,I.base.tups,I.base.frzs,I.base.tbls⟩,⟨m,hn.sameBut hs (Ne.symm (cne x c hc)),fun j y v' e1 e2 e3=>?_⟩,fun y c' e=>?_,I.free,I.freeC,fun p hp=>?_,tracked ⟨oc,hoc,I.freeC x c hc⟩ hs,by simpa using I.len⟩ ⟨c,hs,.inr hc⟩
  ·exact (hs.2 b (Nat.ne_of_lt (kL (Heap.lt_size e) (I.ok.cab x c hfn hc)))).trans (I.base.keep b o e n hb hx)
  ·obtain ⟨sl,e1⟩:=I.base.slot b o e n hb hx
   exact ⟨sl,(hs.2 b (Nat.ne_of_lt (kL (Heap.lt_size e) (I.ok.cab x c hfn hc)))).trans e1⟩
  ·obtain ⟨o',e1⟩:=I.base.there b o e hx
   exact ⟨o',(hs.2 b (Nat.ne_of_lt (kL (Heap.lt_size e) (I.ok.cab x c hfn hc)))).trans e1⟩
  ·by_cases hj:j=i
   ·subst hj
    rw [hi] at e1;cases e1
    rw [List.getElem?_set_self hiσ] at e2
    cases e2
    exact ⟨u,r,.inr ⟨.inl hk,c,hc,hc'⟩⟩
   ·rw [List.getElem?_set_ne (Ne.symm hj)] at e2
    obtain ⟨u',r',q⟩:=hl j y v' e1 e2 e3
    refine ⟨u',r',?_⟩
    rcases q with q | ⟨k,c',e,z'⟩
    ·exact .inl q
    ·refine .inr ⟨k,c',e,z'.sameBut hs ?_⟩
     rintro rfl
     exact hj (QO hN e1 (I.ok.inj _ _ _ e hc▸hi))
  ·by_cases hcc:c'=c
   ·subst hcc;exact ⟨_,hc'⟩
   ·obtain ⟨w2,z2⟩:=I.cell y c' e
    exact ⟨w2,z2.sameBut hs hcc⟩
  ·obtain ⟨e,n,ne,nf,d⟩:=I.pin p hp
   refine ⟨(hs.2 p.1 ?_).trans e,n,ne,nf,d⟩
   intro q
   rw [q,hoc] at e
   have q':oc=p.2:=kB e
   exact d w' (by rw [←q'];exact hocd)
theorem jj {M:Model} {A:Around} {E:Value→Shared→Prop} {i:Nat} {x:Str} {v:V} {u:Value} {Q:Unit→Shared→Prop} (I:Inv X pins σ H s) (hN:X.N.Nodup) (hi:X.N[i]?=some x) (hx:Loc X.env.scope x) (r:RelV v u)
  (h:∀s',Inv X pins (σ.set i (some v)) H s'→Q () s') (hf:X.fn x=true∨X.env.scope.names.lookup x=some .local:=by first | exact .inl rfl | exact .inr rfl | assumption):wpAny M A (storeName X.env x u) Q E s:=
 J7 I hN hi hx r (fun s' I' _=>h s' I') hf
theorem Inv.call' {s':Shared} {ch:List Addr} (I:Inv X pins σ H s) (ho:s'.os=s.os) (u:Un (frs X.stack) ch H H' s.heap s'.heap) (hok:HOk X.prog X.w H' s'.heap) (hg:AllBare s'.gens)
  (hch:∀b∈ch,(b∈X.ex∨X.s₀.heap.objs.size≤b)∧b≠X.env.locals∧(∀x c,X.env.cells.lookup x=some c→c≠b)∧∀p∈X.pn++pins,p.1≠b):Inv X pins σ H' s':=by
 obtain ⟨h',g',d',t',o'⟩:=s'
 have e:o'=s.os:=ho
 subst e
 exact I.call (g':=g') (t':=t') (d':=d') u hok hg hch
end
abbrev XK:=Value→Option Addr→Hp→Prop
abbrev St:=List (Option V)
abbrev VK:=V→Hp→Prop
abbrev TE:=St→Hp→VK→Prop
abbrev TT:=St→Hp→(Bool→Hp→Prop)→Prop
abbrev TA:=St→Hp→(List V→Hp→Prop)→Prop
structure Ends where
 nx:St→Hp→Prop
 rt:VK
 bk:St→Hp→Prop:=fun _ _=>False
 ct:St→Hp→Prop:=fun _ _=>False
abbrev TS:=Ends→St→Hp→Prop
def EP (X:Cx) (pins:List (Addr × Obj)) (σ:St) (Q:VK) (u:Value) (s':Shared):Prop:=∃v H',Inv X pins σ H' s'∧RelV v u∧Q v H'
def TP (X:Cx) (pins:List (Addr × Obj)) (σ:St) (Q:Bool→Hp→Prop) (b:Bool) (s':Shared):Prop:=∃H',Inv X pins σ H' s'∧Q b H'
def AP (X:Cx) (pins:List (Addr × Obj)) (σ:St) (Q:List V→Hp→Prop) (us:List Value) (s':Shared):Prop:=∃vs H',Inv X pins σ H' s'∧Vals vs us∧Q vs H'
def SP (X:Cx) (pins:List (Addr × Obj)) (D:Ends) (f:Flow) (s':Shared):Prop:=
 match f with
 | .next=>∃σ' H',Inv X pins σ' H' s'∧D.nx σ' H'
 | .brk=>∃σ' H',Inv X pins σ' H' s'∧D.bk σ' H'
 | .cont=>∃σ' H',Inv X pins σ' H' s'∧D.ct σ' H'
 | .ret u=>∃v σ' H',Inv X pins σ' H' s'∧RelV v u∧D.rt v H'
def PE (X:Cx) (e:Expr) (t:TE):Prop:=
 ∀(pins:List (Addr × Obj)) (s:Shared) (σ:St) (H:Hp) (Q:VK),Inv X pins σ H s→t σ H Q→wpAny (model X.prog X.w) X.A (eval e X.env) (EP X pins σ Q) X.xe s
def PT (X:Cx) (e:Expr) (t:TT):Prop:=
 ∀(pins:List (Addr × Obj)) (s:Shared) (σ:St) (H:Hp) (Q:Bool→Hp→Prop),Inv X pins σ H s→t σ H Q→wpAny (model X.prog X.w) X.A (isTrue e X.env (eval e X.env)) (TP X pins σ Q) X.xe s
def PW (X:Cx) (e:Expr) (t:TT):Prop:=
 ∀(whole:Sem Value) (pins:List (Addr × Obj)) (s:Shared) (σ:St) (H:Hp) (Q:Bool→Hp→Prop),Inv X pins σ H s→t σ H Q→wpAny (model X.prog X.w) X.A (isTrue e X.env whole) (TP X pins σ Q) X.xe s
theorem PW.pt {X:Cx} {e:Expr} {t:TT} (h:PW X e t):PT X e t:=h _
def PA (X:Cx) (es:List Expr) (t:TA):Prop:=
 ∀(pos:Pos) (pins:List (Addr × Obj)) (s:Shared) (σ:St) (H:Hp) (Q:List V→Hp→Prop),Inv X pins σ H s→t σ H Q→wpAny (model X.prog X.w) X.A (spliced (backTo pos (starEach es X.env))) (AP X pins σ Q) X.xe s
def PS (X:Cx) (st:Stmt) (t:TS):Prop:=
 ∀(pins:List (Addr × Obj)) (s:Shared) (σ:St) (H:Hp) (D:Ends),Inv X pins σ H s→t D σ H→wpAny (model X.prog X.w) X.A (exec st X.env) (SP X pins D) X.xe s
def PSs (X:Cx) (st:List Stmt) (t:TS):Prop:=
 ∀(pins:List (Addr × Obj)) (s:Shared) (σ:St) (H:Hp) (D:Ends),Inv X pins σ H s→t D σ H→wpAny (model X.prog X.w) X.A (execs st X.env) (SP X pins D) X.xe s
theorem thn {α:Type} {t:Sem α} {Q Q':α→Shared→Prop} {M:Model} {A:Around} {E:Value→Shared→Prop} {s:Shared} (h:wpAny M A t Q E s) (hQ:∀a s,Q a s→Q' a s):wpAny M A t Q' E s:=wpAny_mono h hQ fun _ _ x=>x
end L2
namespace L2
open PySem PySem.Spec PyProof.Rows
section
variable {X:Cx}
def tVar (i:Nat):TE:=fun σ H Q=>∃v,σ[i]?=some (some v)∧Q v H
abbrev tC (v:V):TE:=fun _ H Q=>Q v H
theorem z71 {i:Nat} {x:Str} {pos:Pos} (hN:X.N[i]?=some x) (hv:Vis X.env.scope x) (hd:autoParam ((x == ("__debug__":Str))=false) aR._auto_2) (hcd:autoParam ((x == ("__classdict__":Str))=false) aR._auto_2):PE X (.Name x pos) (tVar i):=by
 intro pins s σ H Q I h
 obtain ⟨v,e,h⟩:=h
 obtain ⟨m,hn,hl⟩:=I.loc
 obtain ⟨u,r,l⟩:=hl i x v hN e hv
 have fin:EP X pins σ Q u s:=⟨v,H,I,r,h⟩
 rcases l with ⟨hk,hm⟩ | ⟨hk,c,hc,hcell⟩
 ·exact wpAny_Name (wpAny_loadName_local I.ok.kind hk hn hm fin) hd
 ·rcases hk with hk | hk
  ·exact wpAny_Name (wpAny_loadName_cell I.ok.kind hk hc hcell fin) hd
  ·exact wpAny_Name (wpAny_loadName_free I.ok.kind hk hc hcell fin hcd) hd
theorem zh {i j pos}:PE X (.Constant (.int i) j pos) (tC (.int i)):=fun _ _ _ H _ I h=>wpAny_Constant_int ⟨.int i,H,I.tok _,⟨_,rfl⟩,h⟩
theorem qV {b j pos}:PE X (.Constant (.bool b) j pos) (tC (.bl b)):=fun _ _ _ H _ I h=>Constant_bool ⟨.bl b,H,I,rfl,h⟩
theorem zF {j pos}:PE X (.Constant .none j pos) (tC .non):=fun _ _ _ H _ I h=>Constant_none ⟨.non,H,I,rfl,h⟩
theorem zo {x j pos}:PE X (.Constant (.str x) j pos) (tC (.str x)):=fun _ _ _ H _ I h=>Calls.Constant_str ⟨.str x,H,I.tok _,⟨_,rfl⟩,h⟩
def Gl (X:Cx) (x:Str):Prop:=X.env.kindOf x=some .globalImplicit
theorem jm {E:Value→Shared→Prop} {pins:List (Addr × Obj)} {s:Shared} {σ:St} {H:Hp} {x:Str} {u:Value} {pos:Pos} {Q:Value→Shared→Prop} (I:Inv X pins σ H s) (hg:Gl X x) (hm:X.mg x=some u) (h:Q u s)
  (hd:autoParam ((x == ("__debug__":Str))=false) aR._auto_2):wpAny (model X.prog X.w) X.A (eval (.Name x pos) X.env) Q E s:=
 Calls.Name_function_global I.ok.kind hg (Calls.loadGlobal_global (by rw [I.ok.glob];exact I.mod.glob.keeps I.bk) hm h) hd
theorem Qt {E:Value→Shared→Prop} {pins:List (Addr × Obj)} {s:Shared} {σ:St} {H:Hp} {x:Str} {u:Value} {pos:Pos} {Q:Value→Shared→Prop} (I:Inv X pins σ H s) (hg:Gl X x) (hm:X.mg x=none) (hv:bootBuiltins x=some u) (h:Q u s)
  (hn:autoParam (x≠"__name__") aR._auto_2) (hd:autoParam ((x == ("__debug__":Str))=false) aR._auto_2):wpAny (model X.prog X.w) X.A (eval (.Name x pos) X.env) Q E s:=by
 obtain ⟨mb,h1,h2⟩:=I.mod.blt
 exact Calls.Name_function_global I.ok.kind hg (Calls.loadGlobal_builtin (by rw [I.ok.glob];exact I.mod.glob.keeps I.bk) hm (by rw [I.ok.blt];exact h1.keeps I.bk) ((h2 x hn).trans hv) h) hd
theorem zA {x:Str} {v:V} {u:Value} {pos:Pos} (hg:Gl X x) (hm:X.mg x=some u) (r:RelV v u) (hd:autoParam ((x == ("__debug__":Str))=false) aR._auto_2):PE X (.Name x pos) (tC v):=
 fun _ _ _ H _ I h=>jm I hg hm ⟨v,H,I,r,h⟩ hd
theorem z5u {x:Str} {v:V} {u:Value} {pos:Pos} (hg:Gl X x) (hm:X.mg x=none) (hv:bootBuiltins x=some u) (r:RelV v u) (hn:autoParam (x≠"__name__") aR._auto_2) (hd:autoParam ((x == ("__debug__":Str))=false) aR._auto_2):PE X (.Name x pos) (tC v):=
 fun _ _ _ H _ I h=>Qt I hg hm hv ⟨v,H,I,r,h⟩ hn hd
variable {a b:Expr} {ta tb:TE} {pos:Pos}
def PC (X:Cx) (op:CmpOp) (a b:Expr) (t:TE):Prop:=
 ∀(pins:List (Addr × Obj)) (s:Shared) (σ:St) (H:Hp) (Q:VK),Inv X pins σ H s→t σ H Q→
  wpAny (model X.prog X.w) X.A (eval a X.env) (fun v s₁=>wpAny (model X.prog X.w) X.A (eval b X.env) (fun u s₂=>wpAny (model X.prog X.w) X.A (compareOp op v u) (EP X pins σ Q) X.xe s₂) X.xe s₁) X.xe s
def tB (t:TE):TT:=fun σ H Q=>t σ H fun x H1=>∃c,x=.bl c∧Q c H1
theorem z4X {op:CmpOp} {t:TE} (h:PC X op a b t) (h1:behindInMarks op b=false:=by first | exact nobehind _ (by decide) (by decide) | rfl):PE X (.Compare a [op] [b] pos) t:=fun pins s σ H Q I hw=>wpAny_Compare1 (h pins s σ H Q I hw) h1
theorem z4V {op:CmpOp} {t:TE} (h:PC X op a b t) (h1:behindInMarks op b=false:=by first | exact nobehind _ (by decide) (by decide) | rfl):PT X (.Compare a [op] [b] pos) (tB t):=by
 intro pins s σ H Q I hw
 refine wpAny_isTrue_Compare1 (thn (h pins s σ H _ I hw) fun v s1 h1=>thn h1 fun u s2 h2=>thn h2 fun c s3 ⟨x,H1,I1,r1,q1⟩=>?_) h1
 obtain ⟨d,rfl,q⟩:=q1
 cases r1
 exact wpAny_truthy_bool ⟨H1,I1,q⟩
theorem zX {e:Expr} {t:TE} (h:PE X e t) (he:∀whole,isTrue e X.env whole=(do let v ←whole;standAt e.pos;holding [v] (truthy v)):=by intro _;rfl):PT X e (tB t):=by
 intro pins s σ H Q I hw
 refine isTrue_plain (thn (h pins s σ H _ I hw) fun v s1 ⟨x,H1,I1,r1,q1⟩=>?_) (he _)
 obtain ⟨d,rfl,q⟩:=q1
 cases r1
 exact wpAny_truthy_bool ⟨H1,I1,q⟩
variable {tA tB':TT} {rest:List Expr}
def tAnd (t u:TT):TT:=fun σ H Q=>t σ H fun c H1=>if c=true then u σ H1 Q else Q false H1
def tOr (t u:TT):TT:=fun σ H Q=>t σ H fun c H1=>if c=true then Q true H1 else u σ H1 Q
def tNot (t:TT):TT:=fun σ H Q=>t σ H fun c H1=>Q (!c) H1
theorem jO (ha:PT X a tA):PW X (.BoolOp .And [a] pos) tA:=by
 intro wh pins s σ H Q I h
 refine isTrue_and (thn (ha pins s σ H Q I h) fun c s1 e=>?_)
 cases c with
 | true=>exact isTrue_and_nil e
 | false=>exact e
theorem j9 (ha:PT X a tA):PW X (.BoolOp .Or [a] pos) tA:=by
 intro wh pins s σ H Q I h
 refine isTrue_or (thn (ha pins s σ H Q I h) fun c s1 e=>?_)
 cases c with
 | false=>exact isTrue_or_nil e
 | true=>exact e
theorem ZV (ha:PT X a tA) (hb:PW X (.BoolOp .And (b :: rest) pos) tB'):PW X (.BoolOp .And (a :: b :: rest) pos) (tAnd tA tB'):=by
 intro wh pins s σ H Q I h
 refine isTrue_and (thn (ha pins s σ H _ I h) fun c s1 zz=>?_)
 obtain ⟨H1,I1,q1⟩:=zz
 cases c with
 | true=>exact hb wh pins s1 σ H1 Q I1 q1
 | false=>exact ⟨H1,I1,q1⟩
theorem jx (ha:PT X a tA) (hb:PW X (.BoolOp .Or (b :: rest) pos) tB'):PW X (.BoolOp .Or (a :: b :: rest) pos) (tOr tA tB'):=by
 intro wh pins s σ H Q I h
 refine isTrue_or (thn (ha pins s σ H _ I h) fun c s1 zz=>?_)
 obtain ⟨H1,I1,q1⟩:=zz
 cases c with
 | true=>exact ⟨H1,I1,q1⟩
 | false=>exact hb wh pins s1 σ H1 Q I1 q1
theorem qw (ha:PT X a tA):PT X (.UnaryOp .Not a pos) (tNot tA):=by
 intro pins s σ H Q I h
 exact isTrue_not (ha pins s σ H (fun c H1=>Q (!c) H1) I h)
def z7Y (ta tb:TE):TE:=fun σ H Q=>ta σ H fun x H1=>∃c,x=.bl c∧if c=true then tb σ H1 Q else Q (.bl false) H1
def tOrV (ta tb:TE):TE:=fun σ H Q=>ta σ H fun x H1=>∃c,x=.bl c∧if c=true then Q (.bl true) H1 else tb σ H1 Q
def z7S (ta:TE):TE:=fun σ H Q=>ta σ H fun x H1=>∃c,x=.bl c∧Q (.bl (!c)) H1
theorem qm {op} {t:TE} (h:PE X a t):PE X (.BoolOp op [a] pos) t:=fun pins s σ H Q I hw=>BoolOp_one (h pins s σ H Q I hw)
theorem qj (ha:PE X a ta) (hb:PE X (.BoolOp .And (b :: rest) pos) tb):PE X (.BoolOp .And (a :: b :: rest) pos) (z7Y ta tb):=by
 intro pins s σ H Q I h
 refine BoolOp_and (thn (ha pins s σ H _ I h) fun v s1 zz=>?_)
 obtain ⟨x,H1,I1,r1,q1⟩:=zz
 obtain ⟨c,rfl,q1⟩:=q1
 cases r1
 refine wpAny_truthy_bool ?_
 cases c with
 | true=>exact hb pins s1 σ H1 Q I1 q1
 | false=>exact ⟨.bl false,H1,I1,rfl,q1⟩
theorem z3P (ha:PE X a ta) (hb:PE X (.BoolOp .Or (b :: rest) pos) tb):PE X (.BoolOp .Or (a :: b :: rest) pos) (tOrV ta tb):=by
 intro pins s σ H Q I h
 refine BoolOp_or (thn (ha pins s σ H _ I h) fun v s1 zz=>?_)
 obtain ⟨x,H1,I1,r1,q1⟩:=zz
 obtain ⟨c,rfl,q1⟩:=q1
 cases r1
 refine wpAny_truthy_bool ?_
 cases c with
 | false=>exact hb pins s1 σ H1 Q I1 q1
 | true=>exact ⟨.bl true,H1,I1,rfl,q1⟩
theorem z0O (ha:PE X a ta):PE X (.UnaryOp .Not a pos) (z7S ta):=by
 intro pins s σ H Q I h
 refine UnaryOp_ (thn (ha pins s σ H _ I h) fun v s1 zz=>?_)
 obtain ⟨x,H1,I1,r1,q1⟩:=zz
 obtain ⟨c,rfl,q1⟩:=q1
 cases r1
 exact not_of (wpAny_truthy_bool ⟨.bl (!c),H1,I1,rfl,q1⟩)
def tIf (t:TT) (ta tb:TE):TE:=fun σ H Q=>t σ H fun c H1=>if c=true then ta σ H1 Q else tb σ H1 Q
theorem qG {c:Expr} (hc:PT X c tA) (ha:PE X a ta) (hb:PE X b tb):PE X (.IfExp c a b pos) (tIf tA ta tb):=by
 intro pins s σ H Q I h
 refine wpAny_IfExp (thn (hc pins s σ H _ I h) fun d s1 zz=>?_)
 obtain ⟨H1,I1,q1⟩:=zz
 cases d with
 | true=>exact ha pins s1 σ H1 Q I1 q1
 | false=>exact hb pins s1 σ H1 Q I1 q1
end
end L2
namespace L2
open PySem PySem.Spec PyProof.Rows
def SqL (K:ky) (H:Hp) (a:Addr) (xs:List V):Prop:=
 Rd H a (.lst xs)∨
  ∃(o:Obj) (its:Array Value) (n:Nat),K.lookup a=some o∧o.cls=.type "list"∧o.dict=none∧o.data=.seq its n∧its.size≤sizeLine∧Vals xs its.toList
def SqT (K:ky) (H:Hp) (a:Addr) (xs:List V):Prop:=
 Rd H a (.tup xs)∨
  ∃(o:Obj) (its:Array Value) (n:Nat),K.lookup a=some o∧o.cls=.type "tuple"∧o.data=.seq its n∧its.size≤sizeLine∧Vals xs its.toList
noncomputable def absV:Value→Option V
 | .none=>some .non
 | .bool b=>some (.bl b)
 | .int i _=>some (.int i)
 | .str x _=>some (.str x)
 | .bytes b _=>some (.byt b)
 | .float b _=>some (.flt b)
 | .ref a=>some (.ref a)
 | .type n=>some (.ty n)
 | _=>none
theorem RelV.abs {x:V} {u:Value} (r:RelV x u):absV u=some x:=by
 cases x with
 | non=>cases r;rfl
 | bl _=>cases r;rfl
 | int _=>obtain ⟨t,rfl⟩:=r;rfl
 | str _=>obtain ⟨t,rfl⟩:=r;rfl
 | byt _=>obtain ⟨t,rfl⟩:=r;rfl
 | flt _=>obtain ⟨t,rfl⟩:=r;rfl
 | ref _=>cases r;rfl
 | ty _=>cases r;rfl
theorem RelV.inj {x y:V} {u:Value} (r:RelV x u) (q:RelV y u):x=y:=kB (r.abs.symm.trans q.abs)
theorem Vals.inj:∀{xs ys:List V} {us:List Value},Vals xs us→Vals ys us→xs=ys
 | _,_,_,.nil,.nil=>rfl
 | _,_,_,.cons r t,.cons r' t'=>by rw [r.inj r',Vals.inj t t']
section
variable {X:Cx} {pins:List (Addr × Obj)} {σ:St} {H:Hp} {s:Shared} {a:Addr} {xs ys:List V}
theorem SqL.of {K:ky} (h:H a=some (.lst xs)):SqL K H a xs:=.inl (.inl h)
theorem SqT.of {K:ky} (h:H a=some (.tup xs)):SqT K H a xs:=.inl (.inl h)
theorem Inv.list (I:Inv X pins σ H s) (h:SqL X.K H a xs):∃its:List Value,Vals xs its∧PlainL s.heap a its.toArray∧xs.length≤sizeLine:=by
 rcases h with h | ⟨o,its,n,hk,hc,hd,hs,hz,r⟩
 ·obtain ⟨z,its,n,r,e⟩:=h.ok I.hok
  exact ⟨its,r,⟨_,n,e,rfl,rfl,rfl⟩,z⟩
 ·refine ⟨its.toList,r,⟨o,n,I.kIn a o hk,hc,hd,by simpa using hs⟩,?_⟩
  have e:=r.length
  simp only [Array.length_toList] at e
  lia
theorem Inv.tuple (I:Inv X pins σ H s) (h:SqT X.K H a xs):∃its:List Value,Vals xs its∧IsTup s.heap a its.toArray∧xs.length≤sizeLine:=by
 rcases h with h | ⟨o,its,n,hk,hc,hs,hz,r⟩
 ·obtain ⟨z,its,r,p⟩:=h.ok I.hok
  exact ⟨its,r,p,z⟩
 ·refine ⟨its.toList,r,⟨o,I.kIn a o hk,hc,n,by simpa using hs⟩,?_⟩
  have e:=r.length
  simp only [Array.length_toList] at e
  lia
theorem Inv.list_inj (I:Inv X pins σ H s) (h:SqL X.K H a xs) (h':SqL X.K H a ys):xs=ys:=by
 obtain ⟨its,r,⟨o,n,e,_,_,d⟩,_⟩:=I.list h
 obtain ⟨its',r',⟨o',n',e',_,_,d'⟩,_⟩:=I.list h'
 rw [e] at e';cases e'
 rw [d] at d'
 injection d' with d1 _
 have:its=its':=by simpa using congrArg Array.toList d1
 subst this
 exact r.inj r'
end
noncomputable abbrev Cx.wish (X:Cx) (E:Value→Shared→Prop):Cx:={ X with xe:=E }
noncomputable abbrev Cx.nox (X:Cx):Cx:=X.wish fun _ _=>False
theorem Cx.Ok.wish {X:Cx} (ok:X.Ok) (E:Value→Shared→Prop):(X.wish E).Ok:=
 ⟨ok.mod,ok.kind,ok.glob,ok.blt,ok.above,ok.inj,ok.has,ok.cab,ok.hd,ok.frames,ok.stk,ok.exf,ok.bs,ok.bsz,ok.noex,ok.exfs,ok.funs,ok.frf⟩
theorem Cx.Ok.unwish {X:Cx} {E:Value→Shared→Prop} (ok:(X.wish E).Ok):X.Ok:=
 ⟨ok.mod,ok.kind,ok.glob,ok.blt,ok.above,ok.inj,ok.has,ok.cab,ok.hd,ok.frames,ok.stk,ok.exf,ok.bs,ok.bsz,ok.noex,ok.exfs,ok.funs,ok.frf⟩
section
variable {X:Cx} {pins:List (Addr × Obj)} {σ:St} {H:Hp} {s:Shared} {E:Value→Shared→Prop}
theorem Inv.wish (I:Inv X pins σ H s) (E:Value→Shared→Prop):Inv (X.wish E) pins σ H s:=⟨I.ok.wish E,I.os,I.bare,I.base,I.loc,I.cell,I.free,I.freeC,I.pin,I.hok,I.len⟩
theorem Inv.unwish (I:Inv (X.wish E) pins σ H s):Inv X pins σ H s:=⟨I.ok.unwish,I.os,I.bare,I.base,I.loc,I.cell,I.free,I.freeC,I.pin,I.hok,I.len⟩
theorem SP.unwish {D:Ends} {f:Flow} {s':Shared} (h:SP (X.wish E) pins D f s'):SP X pins D f s':=by
 cases f with
 | next=>obtain ⟨σ',H',I,q⟩:=h;exact ⟨σ',H',I.unwish,q⟩
 | brk=>obtain ⟨σ',H',I,q⟩:=h;exact ⟨σ',H',I.unwish,q⟩
 | cont=>obtain ⟨σ',H',I,q⟩:=h;exact ⟨σ',H',I.unwish,q⟩
 | ret u=>obtain ⟨v,σ',H',I,r,q⟩:=h;exact ⟨v,σ',H',I.unwish,r,q⟩
theorem PSs.nox {st:List Stmt} {t:TS} (h:PSs X.nox st t):PSs X st t:=fun pins s σ H D I hw=>
 wpAny_mono (h pins s σ H D (I.wish _) hw) (fun _ _ q=>q.unwish) fun _ _ z=>False.elim z
end
section
variable {X:Cx} {st:Stmt} {rest:List Stmt} {t u:TS} {e:Expr} {te:TE} {pos:Pos}
def z7T:TS:=fun D σ H=>D.nx σ H
def tSeq (t u:TS):TS:=fun D σ H=>t { D with nx:=u D } σ H
theorem zq:PSs X [] z7T:=fun _ _ σ H _ I h=>wpAny_execs_nil ⟨σ,H,I,h⟩
theorem zb (h1:PS X st t) (h2:PSs X rest u):PSs X (st :: rest) (tSeq t u):=by
 intro pins s σ H D I h
 refine wpAny_execs_cons (thn (h1 pins s σ H { D with nx:=u D } I h) fun f s1 q=>?_)
 cases f with
 | next=>
  obtain ⟨σ',H',I',q⟩:=q
  exact h2 pins s1 σ' H' D I' q
 | ret v=>exact q
 | brk=>exact q
 | cont=>exact q
theorem zf (h1:PS X st t):PSs X [st] t:=by
 intro pins s σ H D I h
 refine wpAny_execs_cons (thn (h1 pins s σ H D I h) fun f s1 q=>?_)
 cases f with
 | next=>exact wpAny_execs_nil q
 | ret v=>exact q
 | brk=>exact q
 | cont=>exact q
theorem Inv.quiet {pins:List (Addr × Obj)} {σ:St} {H:Hp} {s:Shared} (I:Inv X pins σ H s):interactive X.env=false:=by simp [interactive,I.ok.kind]
def z7V (te:TE):TS:=fun D σ H=>te σ H fun _ H1=>D.nx σ H1
theorem zH (he:PE X e te) (hs:autoParam (swapsWith e none pos.line X.env=pure false) aR._auto_1):PS X (.Expr e pos) (z7V te):=by
 intro pins s σ H D I h
 exact wpAny_Expr_any (thn (he pins s σ H _ I h) fun v s1 ⟨x,H1,I1,r1,q1⟩=>⟨σ,H1,I1,q1⟩) I.quiet hs
def tRet (te:TE):TS:=fun D σ H=>te σ H D.rt
theorem zk (he:PE X e te):PS X (.Return (some e) pos) (tRet te):=by
 intro pins s σ H D I h
 exact wpAny_Return_some (thn (he pins s σ H _ I h) fun v s1 ⟨x,H1,I1,r1,q1⟩=>⟨x,σ,H1,I1,r1,q1⟩)
def z7Q:TS:=fun D _ H=>D.rt .non H
theorem z5r:PS X (.Return none pos) z7Q:=fun _ _ σ H _ I h=>wpAny_Return_none ⟨.non,σ,H,I,rfl,h⟩
def tIfS (c:TT) (t u:TS):TS:=fun D σ H=>c σ H fun b H1=>if b=true then t D σ H1 else u D σ H1
theorem zJ {c:Expr} {a b:List Stmt} {tc:TT} (hc:PT X c tc) (ha:PSs X a t) (hb:PSs X b u):PS X (.If c a b pos) (tIfS tc t u):=by
 intro pins s σ H D I h
 refine wpAny_If (thn (hc pins s σ H _ I h) fun d s1 zz=>?_)
 obtain ⟨H1,I1,q1⟩:=zz
 cases d with
 | true=>exact ha pins s1 σ H1 D I1 q1
 | false=>exact hb pins s1 σ H1 D I1 q1
def z6B:TS:=fun _ _ _=>False
theorem zP {sts:List Stmt}:PSs X sts z6B:=fun _ _ _ _ _ _ h=>h.elim
end
abbrev TG:=V→St→Hp→(St→Hp→Prop)→Prop
abbrev TGs:=List V→St→Hp→(St→Hp→Prop)→Prop
def PG (X:Cx) (target:Expr) (t:TG):Prop:=
 ∀(pins:List (Addr × Obj)) (s:Shared) (σ:St) (H:Hp) (v:V) (u:Value) (Q:St→Hp→Prop),Inv X pins σ H s→RelV v u→t v σ H Q→
  wpAny (model X.prog X.w) X.A (assign target X.env u) (fun _ s'=>∃σ' H',Inv X pins σ' H' s'∧Q σ' H') X.xe s
def PGs (X:Cx) (ts:List Expr) (t:TGs):Prop:=
 ∀(pins:List (Addr × Obj)) (s:Shared) (σ:St) (H:Hp) (vs:List V) (us:List Value) (Q:St→Hp→Prop),Inv X pins σ H s→Vals vs us→t vs σ H Q→
  wpAny (model X.prog X.w) X.A (assignInOrder ((assignEach ts X.env).map (·.2)) us) (fun _ s'=>∃σ' H',Inv X pins σ' H' s'∧Q σ' H') X.xe s
abbrev TSet:=V→V→V→Hp→(Hp→Prop)→Prop
def PSet (X:Cx) (t:TSet):Prop:=
 ∀(pins:List (Addr × Obj)) (s:Shared) (σ:St) (H:Hp) (o i v:V) (ov iv u:Value) (Q:Hp→Prop),Inv X pins σ H s→RelV o ov→RelV i iv→RelV v u→t o i v H Q→
  wpAny (model X.prog X.w) X.A (setItem ov iv u) (fun _ s'=>∃H',Inv X pins σ H' s'∧Q H') X.xe s
abbrev TIp:=V→V→Hp→VK→Prop
def PIp (X:Cx) (op:Operator) (t:TIp):Prop:=
 ∀(pins:List (Addr × Obj)) (s:Shared) (σ:St) (H:Hp) (x y:V) (v u:Value) (Q:VK),Inv X pins σ H s→RelV x v→RelV y u→t x y H Q→
  wpAny (model X.prog X.w) X.A (inplaceOp op v u) (EP X pins σ Q) X.xe s
section
variable {X:Cx} {pos:Pos}
def z2T (i:Nat):TG:=fun v σ H Q=>Q (σ.set i (some v)) H
theorem zw {i:Nat} {x:Str} (hN:X.N.Nodup) (hi:X.N[i]?=some x) (hx:Loc X.env.scope x) (hf:X.fn x=true∨X.env.scope.names.lookup x=some .local:=by first | exact .inl rfl | exact .inr rfl | assumption):PG X (.Name x pos) (z2T i):=by
 intro pins s σ H v u Q I r h
 exact wpAny_assign_Name (jj I hN hi hx r (fun s' I'=>⟨_,H,I',h⟩) hf)
def gNil:TGs:=fun vs σ H Q=>vs=[]∧Q σ H
def z8s (t:TG) (u:TGs):TGs:=fun vs σ H Q=>∃v r,vs=v :: r∧t v σ H fun σ' H'=>u r σ' H' Q
theorem qh:PGs X [] gNil:=by
 intro pins s σ H vs us Q I r h
 obtain ⟨e,h⟩:=h
 subst e
 cases r
 exact assignInOrder_nil ⟨σ,H,I,h⟩
theorem zp {e:Expr} {es:List Expr} {t:TG} {u:TGs} (h1:PG X e t) (h2:PGs X es u)
  (hs:autoParam ((assignEach (e :: es) X.env).map (·.2)=assign e X.env :: (assignEach es X.env).map (·.2)) aR._auto_1):PGs X (e :: es) (z8s t u):=by
 intro pins s σ H vs us Q I r h
 obtain ⟨v,vr,e1,h⟩:=h
 subst e1
 cases r with
 | cons r rr=>
  rw [hs]
  refine assignInOrder_cons (thn (h1 pins s σ H _ _ _ I r h) fun _ s1 zz=>?_)
  obtain ⟨σ1,H1,I1,q1⟩:=zz
  exact h2 pins s1 σ1 H1 _ _ Q I1 rr q1
def gTup (K:ky) (n:Nat) (t:TGs):TG:=fun v σ H Q=>∃a xs,v=.ref a∧SqT K H a xs∧xs.length=n∧t xs σ H Q
theorem qU {es:List Expr} {k:Nat} {t:TGs} {n:Nat} (hc:X.calm=true) (h:PGs X es t)
  (hn:autoParam ((assignEach es X.env).length=n) aR._auto_1) (hst:autoParam ((assignEach es X.env).findIdx? (·.1)=none) aR._auto_1):PG X (.Tuple es k pos) (gTup X.K n t):=by
 intro pins s σ H v u Q I r hw
 obtain ⟨a,xs,e1,hq,hl,hw⟩:=hw
 subst e1
 cases r
 obtain ⟨its,rv,ht,hz⟩:=I.tuple hq
 refine assign_Tuple_tuple (I.ok.hd hc) ht (by simp [hn,←hl,rv.length]) hst fun h' hx=>?_
 have I1:Inv X pins σ H { s with heap:=h' }:=I.kept (t':=s.toks) fun b o e=>hx b o (Nat.ne_of_lt (Heap.lt_size e)) e
 exact h pins _ σ H xs _ Q I1 (by simpa using rv) hw
def gSub (to ti:TE) (t:TSet):TG:=fun v σ H Q=>to σ H fun o H1=>ti σ H1 fun i H2=>t o i v H2 fun H3=>Q σ H3
theorem ZX {o i:Expr} {to ti:TE} {t:TSet} (ho:PE X o to) (hi:PE X i ti) (hs:PSet X t)
  (ha:∀v,assign (.Subscript o i pos) X.env v=(do
   let ov ←holding [v] (eval o X.env)
   let iv ←holding [v,ov] (eval i X.env)
   standAt pos
   holding [v,ov,iv] (setItem ov iv v)
   release [v,ov,iv] []):=by intro _;rfl):PG X (.Subscript o i pos) (gSub to ti t):=by
 intro pins s σ H v u Q I r h
 rw [ha]
 refine wpAny_bind (wpAny_holding (thn (ho pins s σ H _ I h) fun ov s1 zz=>?_))
 obtain ⟨x,H1,I1,r1,q1⟩:=zz
 refine wpAny_bind (wpAny_holding (thn (hi pins s1 σ H1 _ I1 q1) fun iv s2 zz=>?_))
 obtain ⟨y,H2,I2,r2,q2⟩:=zz
 refine wpAny_bind (wpAny_standAt (wpAny_bind (wpAny_holding (thn (hs pins s2 σ H2 x y v ov iv u _ I2 r1 r2 r q2) fun _ s3 zz=>?_))))
 obtain ⟨H3,I3,q3⟩:=zz
 exact wpAny_release ⟨σ,H3,I3,q3⟩
def tAsg (te:TE) (g:TG):TS:=fun D σ H=>te σ H fun x H1=>g x σ H1 D.nx
theorem qO {tg e:Expr} {te:TE} {g:TG} (he:PE X e te) (hg:PG X tg g) (hs:autoParam (swapsWithSole [tg] e pos.line X.env=pure false) aR._auto_1) (hw:autoParam (swappedStores [tg] e X.env=pure none) aR._auto_1)
  (h1:autoParam ((assignEach [tg] X.env).map (·.2)=[assign tg X.env]) aR._auto_1):PS X (.Assign [tg] e pos) (tAsg te g):=by
 intro pins s σ H D I h
 refine wpAny_Assign_stores (thn (he pins s σ H _ I h) fun v s1 ⟨x,H1,I1,r1,q1⟩=>?_) hs hw
 rw [h1]
 exact thn (hg pins s1 σ H1 x v _ I1 r1 q1) fun _ s2 q=>q
theorem zx {i:Nat} {x:Str} {e:Expr} {te:TE} {pos':Pos} (hN:X.N.Nodup) (hi:X.N[i]?=some x) (hx:Loc X.env.scope x) (he:PE X e te) (hs:autoParam (swapsWith e (some (.Name x pos')) pos.line X.env=pure false) aR._auto_1) (hf:X.fn x=true∨X.env.scope.names.lookup x=some .local:=by first | exact .inl rfl | exact .inr rfl | assumption):
  PS X (.Assign [.Name x pos'] e pos) (tAsg te (z2T i)):=by
 intro pins s σ H D I h
 refine wpAny_Assign_Name (thn (he pins s σ H _ I h) fun v s1 ⟨y,H1,I1,r1,q1⟩=>?_) hs
 exact jj I1 hN hi hx r1 (fun s2 I2=>⟨_,H1,I2,q1⟩) hf
def tPar (i j:Nat) (ta:TA):TS:=fun D σ H=>ta σ H fun vs H1=>∃v w,vs=[v,w]∧D.nx ((σ.set i (some v)).set j (some w)) H1
theorem Ji {i j:Nat} {x y:Str} {a b:Expr} {ta:TA} {px py pt:Pos} {kt k2 pt2} (hc:X.calm=true) (hN:X.N.Nodup) (hi:X.N[i]?=some x) (hj:X.N[j]?=some y) (hij:i≠j)
  (hx:X.env.scope.names.lookup x=some .local) (hy:X.env.scope.names.lookup y=some .local) (ha:PA X [a,b] ta)
  (hw:swappedStores [.Tuple [.Name x px,.Name y py] kt pt] (.Tuple [a,b] k2 pt2) X.env=pure (some [x,y]))
  (hs:autoParam (swapsWithSole [.Tuple [.Name x px,.Name y py] kt pt] (.Tuple [a,b] k2 pt2) pos.line X.env=pure false) aR._auto_1):
  PS X (.Assign [.Tuple [.Name x px,.Name y py] kt pt] (.Tuple [a,b] k2 pt2) pos) (tPar i j ta):=by
 intro pins s σ H D I h
 rw [exec_Assign_arm]
 refine wpAny_bind (wpAny_standAt ?_)
 rw [hs]
 refine wpAny_bind (wpAny_pure ?_)
 rw [kz (by decide)]
 refine wpAny_bind (Tuple_ (thn (ha _ pins s σ H _ I h) fun us s1 zz=>?_))
 obtain ⟨vs,H1,I1,r1,q1⟩:=zz
 obtain ⟨v,w,e1,q1⟩:=q1
 subst e1
 obtain ⟨u1,u2,rfl,rv,rw'⟩:∃u1 u2,us=[u1,u2]∧RelV v u1∧RelV w u2:=by
  cases r1 with
  | cons p q=>
   cases q with
   | cons p' q'=>
    cases q'
    exact ⟨_,_,rfl,p,p'⟩
 refine wpAny_newObj_type ?_ (by show 2≤sizeLine;decide)
 have I2:Inv X pins σ H1 { s1 with heap:=s1.heap.push { cls:=.type "tuple",data:=.seq [u1,u2].toArray } }:=I1.kept (t':=s1.toks) fun b o e=>Heap.get?_push_of_some _ e
 rw [hw]
 refine wpAny_bind (wpAny_pure ?_)
 show wpAny (model X.prog X.w) X.A (do rule "assign.swapped-stores";let items ←unpackItems (.ref s1.heap.objs.size) 2 none;assignInOrder [fun v=>bindName X.env y v,fun v=>bindName X.env x v] items.reverse;pure Flow.next) _ _ _
 refine wpAny_bind (wpAny_rule (wpAny_bind (unpackItems_tuple (items:=#[u1,u2]) (I.ok.hd hc) (IsTup.new s1.heap _) fun h' hx'=>?_)))
 have I3:=I2.kept (h':=h') (t':=s1.toks) fun b o e=>hx' b o (Nat.ne_of_lt (Heap.lt_size e)) e
 show wpAny _ _ (assignInOrder [fun v=>bindName X.env y v,fun v=>bindName X.env x v] [u2,u1] >>= fun _=>pure Flow.next) _ _ _
 refine wpAny_bind (assignInOrder_cons (wpAny_bindName (jj I3 hN hj (.inl hy) rw' (fun s2 I4=>?_) (.inr hy))))
 refine assignInOrder_cons (wpAny_bindName (jj I4 hN hi (.inl hx) rv (fun s3 I5=>assignInOrder_nil (wpAny_pure ?_)) (.inr hx)))
 rw [List.set_comm _ _ (Ne.symm hij)] at I5
 exact ⟨_,H1,I5,q1⟩
def tAug (i:Nat) (te:TE) (ti:TIp):TS:=fun D σ H=>∃x,σ[i]?=some (some x)∧te σ H fun y H1=>ti x y H1 fun z H2=>D.nx (σ.set i (some z)) H2
theorem z6Z {i:Nat} {x:Str} {e:Expr} {te:TE} {op:Operator} {ti:TIp} {pos':Pos} (hN:X.N.Nodup) (hi:X.N[i]?=some x) (hx:Loc X.env.scope x) (he:PE X e te) (ho:PIp X op ti) (hf:X.fn x=true∨X.env.scope.names.lookup x=some .local:=by first | exact .inl rfl | exact .inr rfl | assumption):
  PS X (.AugAssign (.Name x pos') op e pos) (tAug i te ti):=by
 intro pins s σ H D I h
 obtain ⟨v,e1,h⟩:=h
 obtain ⟨m,hn,hl⟩:=I.loc
 have vis:Vis X.env.scope x:=by rcases hx with k | k;exact .inl k;exact .inr (.inl k)
 obtain ⟨u,r,l⟩:=hl i x v hi e1 vis
 refine wpAny_AugAssign_Name ?_
 have go:wpAny (model X.prog X.w) X.A (eval e X.env) (fun w s₂=>wpAny (model X.prog X.w) X.A (inplaceOp op u w) (fun r s₃=>wpAny (model X.prog X.w) X.A (storeName X.env x r) (fun _=>SP X pins D .next) X.xe s₃) X.xe s₂) X.xe s:=by
  refine thn (he pins s σ H _ I h) fun w s1 zz=>?_
  obtain ⟨y,H1,I1,r1,q1⟩:=zz
  refine thn (ho pins s1 σ H1 v y u w _ I1 r r1 q1) fun z s2 zz=>?_
  obtain ⟨zv,H2,I2,r2,q2⟩:=zz
  exact jj I2 hN hi hx r2 (fun s3 I3=>⟨_,H2,I3,q2⟩) hf
 rcases l with ⟨hk,hm⟩ | ⟨hk,c,hc,hcell⟩
 ·exact wpAny_loadName_local I.ok.kind hk hn hm go
 ·rcases hk with hk | hk
  ·exact wpAny_loadName_cell I.ok.kind hk hc hcell go
  ·rcases hx with k | k
   ·have:X.env.scope.names.lookup x=some .free:=hk
    rw [k] at this;cases this
   ·have:X.env.scope.names.lookup x=some .free:=hk
    rw [k] at this;cases this
def ipI (f:Int→Int→Int):TIp:=fun x y H Q=>∃i j,x=.int i∧y=.int j∧Q (.int (f i j)) H
theorem z7p:PIp X .Add (ipI fun i j=>i+j):=by
 intro pins s σ H x y v u Q I r1 r2 h
 obtain ⟨i,j,e1,e2,q⟩:=h
 subst e1;subst e2
 obtain ⟨t,rfl⟩:=r1
 obtain ⟨t',rfl⟩:=r2
 exact iadd_int ⟨.int _,H,I.tok _,⟨_,rfl⟩,q⟩
end
section
variable {X:Cx} {pos:Pos}
def z6y (c:TT) (tb:TS):TS:=fun D σ H=>∃W:Nat→St→Hp→Prop,(∃m,W m σ H)∧∀m σ H,W m σ H→
 c σ H fun b H1=>if b=true then ∃N:St→Hp→Prop,(∀σ' H',N σ' H'→∃m',m' < m∧W m' σ' H')∧tb { D with nx:=N,ct:=N,bk:=D.nx } σ H1 else D.nx σ H1
theorem ZJ {c:Expr} {body:List Stmt} {tc:TT} {tb:TS} (hp:PassesOwn (model X.prog X.w) X.A X.env X.xe) (hc:PT X c tc) (hb:PSs X body tb):PS X (.While c body [] pos) (z6y tc tb):=by
 intro pins s σ H D I h
 obtain ⟨W,⟨m0,w0⟩,turn⟩:=h
 refine wpAny_While (codeAny_whileLoop (fun n s'=>∃σ' H',Inv X pins σ' H' s'∧W n σ' H') ?_ m0 ⟨σ,H,I,w0⟩)
 rintro n s1 ⟨σ1,H1,I1,w1⟩
 refine wpAny_passesOwn hp (thn (hc pins s1 σ1 H1 _ I1 (turn n σ1 H1 w1)) fun b s2 zz=>?_)
 obtain ⟨H2,I2,q2⟩:=zz
 cases b with
 | true=>
  obtain ⟨N,hN,q2⟩:=q2
  rw [kA rfl]
  refine wpAny_passesOwn hp (thn (hb pins s2 σ1 H2 _ I2 q2) fun f s3 q3=>?_)
  cases f with
  | next=>
   obtain ⟨σ3,H3,I3,n3⟩:=q3
   obtain ⟨m',hm,w3⟩:=hN σ3 H3 n3
   exact ⟨m',hm,σ3,H3,I3,w3⟩
  | cont=>
   obtain ⟨σ3,H3,I3,n3⟩:=q3
   obtain ⟨m',hm,w3⟩:=hN σ3 H3 n3
   exact ⟨m',hm,σ3,H3,I3,w3⟩
  | brk=>exact q3
  | ret v=>exact q3
 | false=>
  rw [kz ka]
  exact wpAny_execs_nil ⟨σ1,H2,I2,q2⟩
end
structure It where
 go:Nat→Hp→Prop
 yld:Nat→Hp→V→Hp→Prop
 stop:Nat→Hp→Prop
def FpOk (X:Cx) (pins:List (Addr × Obj)) (H:Hp) (b:Addr):Prop:=
 H b=none∧b≠X.env.locals∧b∉X.fs∧(b∈X.ex∨X.s₀.heap.objs.size≤b)∧(∀x c,X.env.cells.lookup x=some c→c≠b)∧∀p∈X.pn++pins,p.1≠b
theorem Inv.fpOk {X:Cx} {pins:List (Addr × Obj)} {σ:St} {H H':Hp} {s:Shared} {b:Addr} (I:Inv X pins σ H s) (hb:s.heap.objs.size≤b) (hn:H' b=none):FpOk X pins H' b:=by
 refine ⟨hn,Nat.ne_of_gt (kL I.lt hb),I.nofs hb,.inr (ku I.sz hb),fun x c e z=>?_,fun p hp z=>?_⟩
 ·obtain ⟨v,q⟩:=I.cell x c e
  exact absurd (kL q.lt (by rw [z];exact hb)) (Nat.lt_irrefl _)
 ·exact absurd (kL (Heap.lt_size (I.pin p hp).1) (by rw [z];exact hb)) (Nat.lt_irrefl _)
structure Turn (P:Program) (w:World) (K:ky) (tg:Expr) (J:It) (fp:List Addr) (it:Addr) (tn:Nat→Heap→Prop):Prop where
 mem:it∈fp
 obj:∀i h,tn i h→∀b∈fp,∃o,h.get? b=some o∧∀v,o.data≠.cell v
 keep:∀i h h',tn i h→(∀b∈fp,∀o,h.get? b=some o→h'.get? b=some o)→tn i h'
 item:∀(X:Cx),X.prog=P→X.w=w→X.K=K→X.calm=true→∀(i:Nat) (pins:List (Addr × Obj)) (s:Shared) (σ:St) (H:Hp) (E:Value→Shared→Prop),Inv X pins σ H s→(∀b∈fp,FpOk X pins H b)→tn i s.heap→J.go i H→
  wpAny (model P w) X.A (pyNext (.ref it)) (fun r s1=>∃u,r=some u∧
   wpAny (model P w) X.A (letOwnedTupleGo tg (.ref it) u) (fun _ s2=>∃x H',Inv X pins σ H' s2∧RelV x u∧J.yld i H x H'∧tn (i+1) s2.heap∧∀b∈fp,H' b=none) E s1) E s
 done:∀(X:Cx),X.prog=P→X.w=w→X.K=K→X.calm=true→∀(i:Nat) (pins:List (Addr × Obj)) (s:Shared) (σ:St) (H:Hp) (E:Value→Shared→Prop),Inv X pins σ H s→(∀b∈fp,FpOk X pins H b)→tn i s.heap→J.stop i H→
  wpAny (model P w) X.A (pyNext (.ref it)) (fun r s1=>r=none∧Inv X pins σ H s1) E s
 self:∀(A:Around) (i:Nat) (s:Shared) (Q:Value→Shared→Prop) (E:Value→Shared→Prop),tn i s.heap→Q (.ref it) s→wpAny (model P w) A (pyIter (.ref it)) Q E s
abbrev TI:=St→Hp→(It→Hp→Prop)→Prop
def PIE (X:Cx) (pins:List (Addr × Obj)) (σ:St) (tg:Expr) (R:It→Hp→Prop) (itv:Value) (s2:Shared):Prop:=
 ∃(it:Addr) (fp:List Addr) (tn:Nat→Heap→Prop) (J:It) (H':Hp),itv=.ref it∧Inv X pins σ H' s2∧Turn X.prog X.w X.K tg J fp it tn∧tn 0 s2.heap∧(∀b∈fp,FpOk X pins H' b)∧R J H'
def PI (X:Cx) (tg iter:Expr) (wi:TI):Prop:=
 ∀(pins:List (Addr × Obj)) (s:Shared) (σ:St) (H:Hp) (R:It→Hp→Prop),Inv X pins σ H s→wi σ H R→
  wpAny (model X.prog X.w) X.A (eval iter X.env) (fun v s1=>wpAny (model X.prog X.w) X.A (pyIter v) (PIE X pins σ tg R) X.xe s1) X.xe s
theorem z4d {M:Model} {A:Around} {E:Value→Shared→Prop} {s:Shared} {tg:Expr} {it:Addr} {u:Value} {o:Obj} {n:String} {vs:Array Value} {Q:Unit→Shared→Prop} (ho:s.heap.get? it=some o) (hc:o.cls=.type n) (hd:o.data=.fields vs)
  (hn:["enumerate","zip","dict_itemiterator","dict_reverseitemiterator","odict_iterator","itertools.zip_longest","itertools.pairwise"].contains n=false) (hQ:Q () s):wpAny M A (letOwnedTupleGo tg (.ref it) u) Q E s:=by
 unfold letOwnedTupleGo
 cases tg <;> first
  | exact wpAny_pure hQ
  | (cases u <;> first
    | exact wpAny_pure hQ
    | (refine wpAny_bind (wpAny_load ho ?_);rw [hc,hd];show wpAny M A (if (["enumerate","zip","dict_itemiterator","dict_reverseitemiterator","odict_iterator","itertools.zip_longest","itertools.pairwise"].contains n&&vs[0]? == some (rawInt _))=true then _ else _) Q E s;rw [kz (by intro h;rw [hn,Bool.false_and] at h;cases h)];exact wpAny_pure hQ))
noncomputable def Itl (K:ky) (a:Addr):It:=
 ⟨fun i H=>∃xs x,SqL K H a xs∧xs[i]?=some x,fun i H x H'=>H'=H∧∀xs,SqL K H a xs→xs[i]?=some x,fun i H=>∃xs,SqL K H a xs∧xs.length≤i⟩
noncomputable def Itr (lo:Int) (n:Nat):It:=⟨fun i _=>i < n,fun i H x H'=>H'=H∧x=.int (lo+i),fun i _=>n≤i⟩
theorem z1P {P:Program} {w:World} {K:ky} {tg:Expr} (a it:Addr):Turn P w K tg (Itl K a) [it] it (fun i h=>h.IsListIter it a i) where
 mem:=by simp
 obj:=fun i h st b hb=>by
  have e:b=it:=by simpa using hb
  subst e
  obtain ⟨o,e,c,d⟩:=st
  exact ⟨o,e,fun v z=>by rw [d] at z;cases z⟩
 keep:=fun i h h' st k=>st.at fun o e=>k it (by simp) o e
 item:=by
  intro X hP hw hK hc i pins s σ H E I hf st hg
  subst hP hw hK
  obtain ⟨xs,x,hq,hx⟩:=hg
  obtain ⟨its,rv,p,hz⟩:=I.list hq
  obtain ⟨u,hu,ru⟩:=rv.get hx
  obtain ⟨f0,f1,f2,f3,f4,f5⟩:=hf it (by simp)
  refine wpAny_pyNext_list_item st p.isList (x:=u) (by simpa using hu) fun h' st' sb=>?_
  have I1:Inv X pins σ H { s with heap:=h' }:=I.turned (t':=s.toks) (fun b o hb e=>(sb.2 b hb).trans e) f0 f1 f3 f4 f5
  obtain ⟨o,e,c,d⟩:=id st'
  exact ⟨u,rfl,z4d (s:={ s with heap:=h' }) e c d (by decide) ⟨x,H,I1,ru,⟨rfl,fun ys hy=>by rw [I.list_inj hy hq];exact hx⟩,st',fun b hb=>(hf b hb).1⟩⟩
 done:=by
  intro X hP hw hK hc i pins s σ H E I hf st hg
  subst hP hw hK
  obtain ⟨xs,hq,hx⟩:=hg
  obtain ⟨its,rv,p,hz⟩:=I.list hq
  obtain ⟨f0,f1,f2,f3,f4,f5⟩:=hf it (by simp)
  have hl:=rv.length
  exact wpAny_pyNext_list_end (I.ok.hd hc) st p.isList (by simp;lia) fun h' eb=>⟨rfl,I.turned (t':=s.toks) (fun b o hb e=>eb b o hb e) f0 f1 f3 f4 f5⟩
 self:=fun _ _ _ _ _ st h=>wpAny_pyIter_listiter st h
theorem z18 {P:Program} {w:World} {K:ky} {tg:Expr} (it:Addr) (lo:Int) (n:Nat):Turn P w K tg (Itr lo n) [it] it (fun i h=>IsRangeIter h it (lo+(i:Nat) * 1) ((n:Int) - (i:Nat)) 1) where
 mem:=by simp
 obj:=fun i h st b hb=>by
  have e:b=it:=by simpa using hb
  subst e
  exact ⟨_,st,fun v z=>by
   have z':Data.fields _=Data.cell v:=z
   cases z'⟩
 keep:=fun i h h' st k=>k it (by simp) _ st
 item:=by
  intro X hP hw hK hc i pins s σ H E I hf st hg
  subst hP hw hK
  obtain ⟨f0,f1,f2,f3,f4,f5⟩:=hf it (by simp)
  have W:=Walks.range (prog:=X.prog) (w:=X.w) (I.ok.hd hc) it lo 1 n
  refine W.item i s _ _ hg st fun v h' tk hv st' kk=>?_
  obtain ⟨t,rfl⟩:=hv
  have I1:Inv X pins σ H { s with heap:=h',toks:=tk }:=I.turned (fun b o hb e=>kk b o (by simpa using hb) e) f0 f1 f3 f4 f5
  refine ⟨_,rfl,z4d (s:={ s with heap:=h',toks:=tk }) (n:="range_iterator") st' rfl rfl (by decide) ⟨.int (lo+i),H,I1,⟨t,?_⟩,⟨rfl,rfl⟩,st',fun b hb=>(hf b hb).1⟩⟩
  rw [Int.mul_one]
 done:=by
  intro X hP hw hK hc i pins s σ H E I hf st hg
  subst hP hw hK
  obtain ⟨f0,f1,f2,f3,f4,f5⟩:=hf it (by simp)
  exact wpAny_pyNext_range_end (I.ok.hd hc) st (by have:n≤i:=hg;lia) fun h' eb=>⟨rfl,I.turned (t':=s.toks) (fun b o hb e=>eb b o hb e) f0 f1 f3 f4 f5⟩
 self:=fun _ _ _ _ _ st h=>wpAny_pyIter_rangeiter st h
end L2
namespace L2
open PySem PySem.Spec PyProof.Rows
section
variable {X:Cx} {tg:Expr}
def z8o (K:ky) (tl:TE):TI:=fun σ H R=>tl σ H fun x H1=>∃a,x=.ref a∧(∃xs,SqL K H1 a xs)∧R (Itl K a) H1
theorem z0f {l:Expr} {tl:TE} (hl:PE X l tl):PI X tg l (z8o X.K tl):=by
 intro pins s σ H R I h
 refine thn (hl pins s σ H _ I h) fun v s1 zz=>?_
 obtain ⟨x,H1,I1,r1,q1⟩:=zz
 obtain ⟨a,e,⟨xs,hq⟩,q⟩:=q1
 subst e
 cases r1
 obtain ⟨its,rv,p,hz⟩:=I1.list hq
 refine wpAny_pyIter_list p.isList ?_
 refine ⟨s1.heap.objs.size,[s1.heap.objs.size],_,_,H1,rfl,I1.kept (t':=s1.toks) fun b o e=>Heap.get?_push_of_some _ e,z1P a _,⟨_,Heap.get?_push_size _ rfl,rfl,rfl⟩,fun b hb=>?_,q⟩
 have e:b=s1.heap.objs.size:=by simpa using hb
 subst e
 exact I1.fpOk (ke _) (I1.hok.fresh (ke _))
theorem z3J {pins:List (Addr × Obj)} {σ:St} {H:Hp} {s:Shared} {R:It→Hp→Prop} {E:Value→Shared→Prop} {lo hi:Int} {t u v:Tok} {tk:Nat} (I:Inv X pins σ H s) (h1: -(2 ^ 62)≤lo) (h2:lo < 2 ^ 62) (h3: -(2 ^ 62)≤hi) (h4:hi < 2 ^ 62)
  (q:R (Itr lo (hi - lo).toNat) H):wpAny (model X.prog X.w) X.A (pyIter (.ref s.heap.objs.size)) (PIE X pins σ tg R) E { s with heap:=s.heap.push { cls:=.type "range",data:=.fields #[.int lo t,.int hi u,.int 1 v] },toks:=tk }:=by
 refine wpAny_pyIter_range (IsRange.new ..) (small_one h1 h2 h3 h4) ?_
 have I1:Inv X pins σ H { s with heap:=s.heap.push { cls:=.type "range",data:=.fields #[.int lo t,.int hi u,.int 1 v] },toks:=tk }:=I.kept fun b o e=>Heap.get?_push_of_some _ e
 refine ⟨(s.heap.push { cls:=.type "range",data:=.fields #[.int lo t,.int hi u,.int 1 v] }).objs.size,[(s.heap.push { cls:=.type "range",data:=.fields #[.int lo t,.int hi u,.int 1 v] }).objs.size],_,_,H,rfl,
  I1.kept (t':=tk) fun b o e=>Heap.get?_push_of_some _ e,z18 _ lo (hi - lo).toNat,?_,fun b hb=>?_,q⟩
 ·have e1:lo+((0:Nat):Int) * 1=lo:=by simp
  have e2:(((hi - lo).toNat:Nat):Int) - ((0:Nat):Int)=Builtin.Range.rangeSize lo hi 1:=by rw [rangeSize_one];split <;> lia
  show IsRangeIter _ _ (lo+((0:Nat):Int) * 1) ((((hi - lo).toNat:Nat):Int) - ((0:Nat):Int)) 1
  rw [e1,e2]
  exact Heap.get?_push_size _ rfl
 ·have e:b=(s.heap.push { cls:=.type "range",data:=.fields #[.int lo t,.int hi u,.int 1 v] }).objs.size:=by simpa using hb
  subst e
  exact I1.fpOk (ke _) (I1.hok.fresh (ke _))
def z8n (ta:TA):TI:=fun σ H R=>ta σ H fun vs H1=>∃j:Int,vs=[.int j]∧-(2 ^ 62)≤j∧j < 2 ^ 62∧R (Itr 0 j.toNat) H1
theorem Jk {a:Expr} {ta:TA} {p pos:Pos} (hg:Gl X "range") (hm:X.mg "range"=none) (ha:PA X [a] ta) (hs:autoParam (starEach [a] X.env=[(false,eval a X.env)]) aR._auto_1):PI X tg (.Call (.Name "range" p) [a] [] pos) (z8n ta):=by
 intro pins s σ H R I h
 refine Call_ (Qt I hg hm boot_range (PyProof.Rows.callWith_type1 (thn (ha pos pins s σ H _ I h) fun us s1 ⟨vs,H1,I1,r1,q1⟩=>?_) hs rfl))
 obtain ⟨j,e,q1,q2,q⟩:=q1
 subst e
 cases r1 with
 | cons r rr=>
  cases rr
  obtain ⟨t,rfl⟩:=r
  exact call_range_1 (z3J I1 (by lia) (by lia) q1 q2 (by simpa using q))
def tFor (wi:TI) (g:TG) (tb:TS):TS:=fun D σ H=>wi σ H fun J H1=>∃W:Nat→Nat→St→Hp→Prop,(∃m,W 0 m σ H1)∧∀i m σ H,W i m σ H→
 (J.stop i H∧D.nx σ H)∨(J.go i H∧∃N:St→Hp→Prop,(∀σ' H',N σ' H'→∃m',m' < m∧W (i+1) m' σ' H')∧∀x H',J.yld i H x H'→g x σ H' fun σ2 H2=>tb { D with nx:=N,ct:=N,bk:=D.nx } σ2 H2)
noncomputable def Jj (fp:List Addr) (h:Heap):List (Addr × Obj):=fp.filterMap fun b=>(h.get? b).map fun o=>(b,o)
theorem jJ {fp:List Addr} {h:Heap} {b:Addr} {o:Obj} (hb:b∈fp) (e:h.get? b=some o):(b,o)∈Jj fp h:=List.mem_filterMap.mpr ⟨b,hb,by rw [e];rfl⟩
theorem z2v {fp:List Addr} {h:Heap} {p:Addr × Obj} (hp:p∈Jj fp h):p.1∈fp∧h.get? p.1=some p.2:=by
 obtain ⟨b,hb,e⟩:=List.mem_filterMap.mp hp
 cases q:h.get? b with
 | none=>rw [q] at e;cases e
 | some o=>
  rw [q] at e
  have e':(b,o)=p:=kB e
  subst e'
  exact ⟨hb,q⟩
theorem Inv.pinned {pins:List (Addr × Obj)} {σ:St} {H:Hp} {s:Shared} {fp:List Addr} (I:Inv X pins σ H s) (hf:∀b∈fp,FpOk X pins H b) (ho:∀b∈fp,∃o,s.heap.get? b=some o∧∀v,o.data≠.cell v):Inv X (pins++Jj fp s.heap) σ H s:=
 I.pins_of fun p hp=>(kR.mp hp).elim (fun z=>I.pin p (kM _ z)) fun z=>by
  obtain ⟨hb,e⟩:=z2v z
  obtain ⟨f0,f1,f2,_⟩:=hf p.1 hb
  obtain ⟨o,e',d⟩:=ho p.1 hb
  rw [e] at e';cases e'
  exact ⟨e,f0,f1,f2,d⟩
theorem Inv.unpinned {pins pl:List (Addr × Obj)} {σ:St} {H:Hp} {s:Shared} (I:Inv X (pins++pl) σ H s):Inv X pins σ H s:=I.pins_of fun p hp=>I.pin p (kM _ (kN _ hp))
theorem Qn {iter:Expr} {body:List Stmt} {wi:TI} {g:TG} {tb:TS} {pos:Pos} (hp:PassesOwn (model X.prog X.w) X.A X.env X.xe) (hc:X.calm=true) (hi:PI X tg iter wi) (hg:PG X tg g) (hb:PSs X body tb)
  (hs:∀x,foldedSetIterable iter X.env x=pure x:=by intro _;rfl):PS X (.For tg iter body [] pos) (tFor wi g tb):=by
 intro pins s σ H D I h
 refine wpAny_For (thn (hi pins s σ H _ I h) fun v s1 h1=>thn h1 fun itv s2 h2=>?_) hs
 obtain ⟨it,fp,tn,J,H2,e,I2,T,st2,f2,W,⟨m0,w0⟩,turn⟩:=h2
 subst e
 have stat:∀{H':Hp},(∀b∈fp,H' b=none)→∀b∈fp,FpOk X pins H' b:=fun hn b hb=>⟨hn b hb,(f2 b hb).2⟩
 refine codeAny_forLoop_any (fun n s'=>∃i σ' H',Inv X pins σ' H' s'∧tn i s'.heap∧(∀b∈fp,H' b=none)∧W i n σ' H') ?_ m0 ⟨0,σ,H2,I2,st2,fun b hb=>(f2 b hb).1,w0⟩
 rintro n s3 ⟨i,σ3,H3,I3,st3,fr3,w3⟩
 rcases turn i n σ3 H3 w3 with ⟨stop,qn⟩ | ⟨go,N,hN,step⟩
 ·refine wpAny_passesOwn hp (thn (T.done X rfl rfl rfl hc i pins s3 σ3 H3 X.xe I3 (stat fr3) st3 stop) fun r s4 zz=>?_)
  obtain ⟨hr,I4⟩:=zz
  subst hr
  exact wpAny_execs_nil ⟨σ3,H3,I4,qn⟩
 ·refine wpAny_passesOwn hp (thn (T.item X rfl rfl rfl hc i pins s3 σ3 H3 X.xe I3 (stat fr3) st3 go) fun r s4 zz=>?_)
  obtain ⟨u,hr,h4⟩:=zz
  subst hr
  refine wpAny_passesOwn hp (thn h4 fun _ s5 zz=>?_)
  obtain ⟨x,H5,I5,r5,y5,st5,fr5⟩:=zz
  have I5':=I5.pinned (stat fr5) (T.obj _ _ st5)
  refine wpAny_passesOwn hp (thn (hg _ s5 σ3 H5 x u _ I5' r5 (step x H5 y5)) fun _ s6 zz=>?_)
  obtain ⟨σ6,H6,I6,q6⟩:=zz
  refine wpAny_passesOwn hp (thn (hb _ s6 σ6 H6 _ I6 q6) fun f s7 q7=>?_)
  have again:∀{σ7:St} {H7:Hp},Inv X (pins++Jj fp s5.heap) σ7 H7 s7→N σ7 H7→∃m,m < n∧∃i σ' H',Inv X pins σ' H' s7∧tn i s7.heap∧(∀b∈fp,H' b=none)∧W i m σ' H':=fun {σ7 H7} I7 n7=>by
   obtain ⟨m',hm,w7⟩:=hN σ7 H7 n7
   refine ⟨m',hm,i+1,σ7,H7,I7.unpinned,T.keep _ _ _ st5 fun b hb o e=>(I7.pin (b,o) (kM _ (kM _ (jJ hb e)))).1,fun b hb=>?_,w7⟩
   obtain ⟨o,e,d⟩:=T.obj _ _ st5 b hb
   exact (I7.pin (b,o) (kM _ (kM _ (jJ hb e)))).2.1
  cases f with
  | next=>obtain ⟨σ7,H7,I7,n7⟩:=q7;exact again I7 n7
  | cont=>obtain ⟨σ7,H7,I7,n7⟩:=q7;exact again I7 n7
  | brk=>obtain ⟨σ7,H7,I7,q7⟩:=q7;exact ⟨σ7,H7,I7.unpinned,q7⟩
  | ret v=>obtain ⟨x7,σ7,H7,I7,r7,q7⟩:=q7;exact ⟨x7,σ7,H7,I7.unpinned,r7,q7⟩
end
theorem z4h {K:ky} {a:Addr} {xs:List V} {g:TG} {tb:TS} {D:Ends} {σ:St} {H:Hp} (Pv:Nat→St→Hp→Prop) (h0:Pv 0 σ H) (hl:∀i σ H,i≤xs.length→Pv i σ H→SqL K H a xs)
  (hs:∀i x σ H,xs[i]?=some x→Pv i σ H→g x σ H fun σ2 H2=>tb { D with nx:=Pv (i+1),ct:=Pv (i+1),bk:=D.nx } σ2 H2) (hd:∀σ H,Pv xs.length σ H→D.nx σ H):
  ∃W:Nat→Nat→St→Hp→Prop,(∃m,W 0 m σ H)∧∀i m σ H,W i m σ H→
   ((Itl K a).stop i H∧D.nx σ H)∨((Itl K a).go i H∧∃N:St→Hp→Prop,(∀σ' H',N σ' H'→∃m',m' < m∧W (i+1) m' σ' H')∧∀x H',(Itl K a).yld i H x H'→g x σ H' fun σ2 H2=>tb { D with nx:=N,ct:=N,bk:=D.nx } σ2 H2):=by
 refine ⟨fun i m σ H=>m=xs.length - i∧i≤xs.length∧Pv i σ H,⟨xs.length,by simp,Nat.zero_le _,h0⟩,?_⟩
 rintro i m σ H ⟨rfl,hi,p⟩
 have q:=hl i σ H hi p
 by_cases hlt:i < xs.length
 ·refine .inr ⟨⟨xs,xs[i],q,by simp [hlt]⟩,Pv (i+1),fun σ' H' p'=>⟨xs.length - (i+1),by lia,rfl,hlt,p'⟩,fun x H' y=>?_⟩
  obtain ⟨e,y⟩:=y
  subst e
  exact hs i x σ _ (y xs q) p
 ·have e:i=xs.length:=by lia
  subst e
  exact .inl ⟨⟨xs,q,ke _⟩,hd σ H p⟩
theorem z2X {lo:Int} {n:Nat} {g:TG} {tb:TS} {D:Ends} {σ:St} {H:Hp} (Pv:Nat→St→Hp→Prop) (h0:Pv 0 σ H)
  (hs:∀i σ H,i < n→Pv i σ H→g (.int (lo+i)) σ H fun σ2 H2=>tb { D with nx:=Pv (i+1),ct:=Pv (i+1),bk:=D.nx } σ2 H2) (hd:∀σ H,Pv n σ H→D.nx σ H):
  ∃W:Nat→Nat→St→Hp→Prop,(∃m,W 0 m σ H)∧∀i m σ H,W i m σ H→
   ((Itr lo n).stop i H∧D.nx σ H)∨((Itr lo n).go i H∧∃N:St→Hp→Prop,(∀σ' H',N σ' H'→∃m',m' < m∧W (i+1) m' σ' H')∧∀x H',(Itr lo n).yld i H x H'→g x σ H' fun σ2 H2=>tb { D with nx:=N,ct:=N,bk:=D.nx } σ2 H2):=by
 refine ⟨fun i m σ H=>m=n - i∧i≤n∧Pv i σ H,⟨n,by simp,Nat.zero_le _,h0⟩,?_⟩
 rintro i m σ H ⟨rfl,hi,p⟩
 by_cases hlt:i < n
 ·refine .inr ⟨hlt,Pv (i+1),fun σ' H' p'=>⟨n - (i+1),by lia,rfl,hlt,p'⟩,fun x H' y=>?_⟩
  obtain ⟨e,y⟩:=y
  subst e y
  exact hs i σ _ hlt p
 ·have e:i=n:=by lia
  subst e
  exact .inl ⟨ke _,hd σ H p⟩
end L2
namespace L2
open PySem PySem.Spec PyProof.Rows
abbrev R2:=V→V→Hp→VK→Prop
def OpR (X:Cx) (f:Value→Value→Sem Value) (r:R2):Prop:=
 ∀(pins:List (Addr × Obj)) (s:Shared) (σ:St) (H:Hp) (x y:V) (v u:Value) (Q:VK),Inv X pins σ H s→RelV x v→RelV y u→r x y H Q→
  wpAny (model X.prog X.w) X.A (f v u) (EP X pins σ Q) X.xe s
def UnR (X:Cx) (f:Value→Sem Value) (r:V→Hp→VK→Prop):Prop:=
 ∀(pins:List (Addr × Obj)) (s:Shared) (σ:St) (H:Hp) (x:V) (v:Value) (Q:VK),Inv X pins σ H s→RelV x v→r x H Q→
  wpAny (model X.prog X.w) X.A (f v) (EP X pins σ Q) X.xe s
def jt (X:Cx) (f:Value) (r:List V→Hp→VK→Prop):Prop:=
 ∀(pins:List (Addr × Obj)) (s:Shared) (σ:St) (H:Hp) (xs:List V) (us:List Value) (Q:VK),Inv X pins σ H s→Vals xs us→r xs H Q→
  wpAny (model X.prog X.w) X.A (call f us) (EP X pins σ Q) X.xe s
def TruR (X:Cx) (r:V→Hp→(Bool→Hp→Prop)→Prop):Prop:=
 ∀(pins:List (Addr × Obj)) (s:Shared) (σ:St) (H:Hp) (x:V) (v:Value) (Q:Bool→Hp→Prop),Inv X pins σ H s→RelV x v→r x H Q→
  wpAny (model X.prog X.w) X.A (truthy v) (TP X pins σ Q) X.xe s
def tOp (r:R2) (ta tb:TE):TE:=fun σ H Q=>ta σ H fun x H1=>tb σ H1 fun y H2=>r x y H2 Q
def tUn (r:V→Hp→VK→Prop) (ta:TE):TE:=fun σ H Q=>ta σ H fun x H1=>r x H1 Q
def rI (C:Int→Int→Prop) (g:Int→Int→V):R2:=fun x y H Q=>∃i j,x=.int i∧y=.int j∧C i j∧Q (g i j) H
def rI0 (g:Int→Int→V):R2:=fun x y H Q=>∃i j,x=.int i∧y=.int j∧Q (g i j) H
def rU (g:Int→V):V→Hp→VK→Prop:=fun x H Q=>∃i,x=.int i∧Q (g i) H
section
variable {X:Cx} {a b c:Expr} {ta tb tc:TE} {pos:Pos}
theorem binT (ha:PE X a ta) (hb:PE X b tb) {pins:List (Addr × Obj)} {s:Shared} {σ:St} {H:Hp} {R:V→V→Hp→Prop} (I:Inv X pins σ H s)
  (h:ta σ H fun x H1=>tb σ H1 fun y H2=>R x y H2) {Q:Value→Shared→Prop} {f:Value→Value→Sem Value}
  (hf:∀v u s2 x y H2,Inv X pins σ H2 s2→RelV x v→RelV y u→R x y H2→wpAny (model X.prog X.w) X.A (f v u) Q X.xe s2):
  wpAny (model X.prog X.w) X.A (eval a X.env) (fun v s₁=>wpAny (model X.prog X.w) X.A (eval b X.env) (fun u s₂=>wpAny (model X.prog X.w) X.A (f v u) Q X.xe s₂) X.xe s₁) X.xe s:=by
 refine thn (ha pins s σ H _ I h) fun v s1 zz=>?_
 obtain ⟨x,H1,I1,r1,q1⟩:=zz
 refine thn (hb pins s1 σ H1 _ I1 q1) fun u s2 zz=>?_
 obtain ⟨y,H2,I2,r2,q2⟩:=zz
 exact hf v u s2 x y H2 I2 r1 r2 q2
theorem zY {op:Operator} {r:R2} (ho:OpR X (binaryOp op) r) (ha:PE X a ta) (hb:PE X b tb):PE X (.BinOp a op b pos) (tOp r ta tb):=by
 intro pins s σ H Q I h
 exact wpAny_BinOp (binT ha hb I h fun v u s2 x y H2 I2 rx ry q=>ho pins s2 σ H2 x y v u Q I2 rx ry q)
theorem jP {op:UnaryOp} {r:V→Hp→VK→Prop} (ho:UnR X (unaryOp op) r) (ha:PE X a ta):PE X (.UnaryOp op a pos) (tUn r ta):=by
 intro pins s σ H Q I h
 exact UnaryOp_ (thn (ha pins s σ H _ I h) fun v s1 ⟨x,H1,I1,r1,q1⟩=>ho pins s1 σ H1 x v Q I1 r1 q1)
theorem opI {f:Value→Value→Sem Value} {C:Int→Int→Prop} {g:Int→Int→Int}
  (rule:∀(i j:Int) (t u:Tok) (s:Shared) (Q:Value→Shared→Prop) (E:Value→Shared→Prop),C i j→Q (.int (g i j) s.toks) { s with toks:=s.toks+1 }→wpAny (model X.prog X.w) X.A (f (.int i t) (.int j u)) Q E s):
  OpR X f (rI C fun i j=>.int (g i j)):=by
 intro pins s σ H x y v u Q I rx ry h
 obtain ⟨i,j,rfl,rfl,hc,q⟩:=h
 obtain ⟨t,rfl⟩:=rx
 obtain ⟨t',rfl⟩:=ry
 exact rule i j t t' s _ _ hc ⟨.int (g i j),H,I.tok _,⟨_,rfl⟩,q⟩
theorem opI0 {f:Value→Value→Sem Value} {g:Int→Int→Int}
  (rule:∀(i j:Int) (t u:Tok) (s:Shared) (Q:Value→Shared→Prop) (E:Value→Shared→Prop),Q (.int (g i j) s.toks) { s with toks:=s.toks+1 }→wpAny (model X.prog X.w) X.A (f (.int i t) (.int j u)) Q E s):
  OpR X f (rI0 fun i j=>.int (g i j)):=by
 intro pins s σ H x y v u Q I rx ry h
 obtain ⟨i,j,rfl,rfl,q⟩:=h
 obtain ⟨t,rfl⟩:=rx
 obtain ⟨t',rfl⟩:=ry
 exact rule i j t t' s _ _ ⟨.int (g i j),H,I.tok _,⟨_,rfl⟩,q⟩
theorem opB0 {f:Value→Value→Sem Value} {g:Int→Int→Bool}
  (rule:∀(i j:Int) (t u:Tok) (s:Shared) (Q:Value→Shared→Prop) (E:Value→Shared→Prop),Q (.bool (g i j)) s→wpAny (model X.prog X.w) X.A (f (.int i t) (.int j u)) Q E s):
  OpR X f (rI0 fun i j=>.bl (g i j)):=by
 intro pins s σ H x y v u Q I rx ry h
 obtain ⟨i,j,rfl,rfl,q⟩:=h
 obtain ⟨t,rfl⟩:=rx
 obtain ⟨t',rfl⟩:=ry
 exact rule i j t t' s _ _ ⟨.bl (g i j),H,I,rfl,q⟩
def CDiv (i j:Int):Prop:=0 < j∧j < 1073741824
def CPow (i j:Int):Prop:=0≤j∧j≤1000000∧i.natAbs < 2 ^ 64
def CMul (i j:Int):Prop:=(-(2 ^ 64) < i∧i < 2 ^ 64)∨(-(2 ^ 64) < j∧j < 2 ^ 64)
theorem CMul.ok {i j:Int} (h:CMul i j):IntMulOk i j:=by
 rcases h with ⟨h1,h2⟩ | ⟨h1,h2⟩
 ·exact .of_left (intBits_le_64 h1 h2)
 ·exact .of_right (intBits_le_64 h1 h2)
theorem jz:OpR X (binaryOp .Add) (rI0 fun i j=>.int (i+j)):=opI0 fun _ _ _ _ _ _ _ q=>add_int q
theorem z2s:OpR X (binaryOp .Sub) (rI0 fun i j=>.int (i - j)):=opI0 fun _ _ _ _ _ _ _ q=>sub_int q
theorem Jo:OpR X (binaryOp .Mult) (rI CMul fun i j=>.int (i * j)):=opI fun _ _ _ _ _ _ _ hc q=>mul_int q hc.ok
theorem QN:OpR X (binaryOp .FloorDiv) (rI CDiv fun i j=>.int (i / j)):=opI fun i j _ _ _ _ _ hc q=>by
 have h1:(0:Int) < j:=hc.1
 have h2:j < 1073741824:=hc.2
 exact floordiv_int (by lia) (by rw [Int.fdiv_eq_ediv_of_nonneg i (by lia)];exact q) (.inl (PyProof.noPylong_small (by lia)))
theorem ZZ:OpR X (binaryOp .Mod) (rI (fun _ j=>0 < j) fun i j=>.int (i % j)):=opI fun i j _ _ _ _ _ hc q=>by
 have h1:(0:Int) < j:=hc
 exact mod_int' (by lia) (by rw [Int.fmod_eq_emod_of_nonneg i (by lia)];exact q)
theorem z5w:OpR X (binaryOp .Mod) (rI (fun _ j=>j≠0) fun i j=>.int (i.fmod j)):=opI fun _ _ _ _ _ _ _ hc q=>mod_int' hc q
theorem Jn:OpR X (binaryOp .Pow) (rI CPow fun i j=>.int (i ^ j.toNat)):=opI fun _ _ _ _ _ _ _ hc q=>pow_int_small hc.1 hc.2.1 hc.2.2 q
theorem unI {f:Value→Sem Value} {g:Int→Int}
  (rule:∀(i:Int) (t:Tok) (s:Shared) (Q:Value→Shared→Prop) (E:Value→Shared→Prop),Q (.int (g i) s.toks) { s with toks:=s.toks+1 }→wpAny (model X.prog X.w) X.A (f (.int i t)) Q E s):
  UnR X f (rU fun i=>.int (g i)):=by
 intro pins s σ H x v Q I rx h
 obtain ⟨i,rfl,q⟩:=h
 obtain ⟨t,rfl⟩:=rx
 exact rule i t s _ _ ⟨.int (g i),H,I.tok _,⟨_,rfl⟩,q⟩
theorem qS:UnR X (unaryOp .USub) (rU fun i=>.int (-i)):=unI fun _ _ _ _ _ q=>neg_int q
end
noncomputable def scal:V→V→Bool
 | .non,.non=>true | .non,.int _=>true | .int _,.non=>true | .non,.bl _=>true | .bl _,.non=>true | .non,.str _=>true | .str _,.non=>true
 | .int _,.int _=>true | .bl _,.bl _=>true | .str _,.str _=>true | .byt _,.byt _=>true
 | .int _,.str _=>true | .str _,.int _=>true | .bl _,.str _=>true | .str _,.bl _=>true
 | _,_=>false
def rEq:R2:=fun x y H Q=>scal x y=true∧Q (.bl (decide (x=y))) H
def rNe:R2:=fun x y H Q=>scal x y=true∧Q (.bl (!decide (x=y))) H
theorem z3f {i j:Int}:decide (V.int i=V.int j)=(i == j):=by
 rw [Bool.eq_iff_iff]
 simp
theorem JR {i j:Bool}:decide (V.bl i=V.bl j)=(i == j):=by
 rw [Bool.eq_iff_iff]
 simp
theorem z3e {i j:Str}:decide (V.str i=V.str j)=(i == j):=by
 rw [Bool.eq_iff_iff]
 simp
theorem z3g {i j:Array UInt8}:decide (V.byt i=V.byt j)=(i.toList == j.toList):=by
 rw [Bool.eq_iff_iff]
 cases i
 cases j
 simp
section
variable {X:Cx} {a b c:Expr} {ta tb tc:TE} {pos:Pos}
theorem zI {pins:List (Addr × Obj)} {σ:St} {H:Hp} {s:Shared} {Q:VK} {k k':Bool} (I:Inv X pins σ H s) (q:Q (.bl k) H) (e:k=k'):EP X pins σ Q (.bool k') s:=by
 subst e
 exact ⟨.bl k,H,I,rfl,q⟩
theorem qC:OpR X (compareOp .Eq) rEq:=by
 intro pins s σ H x y v u Q I rx ry h
 obtain ⟨hs,q⟩:=h
 cases x with
 | non=>
  cases rx
  cases y with
  | non=>cases ry;exact PySem.EqNone.eq_none_none (zI I q (by simp))
  | bl j=>cases ry;exact PySem.EqNone.eq_none_bool (zI I q (by simp))
  | int j=>obtain ⟨t',rfl⟩:=ry;exact PySem.EqNone.eq_none_int (zI I q (by simp))
  | str j=>obtain ⟨t',rfl⟩:=ry;exact PySem.EqNone.eq_none_str (zI I q (by simp))
  | _=>exact absurd (show false=true from hs) ka
 | bl i=>
  cases rx
  cases y with
  | non=>cases ry;exact PySem.EqNone.eq_bool_none (zI I q (by simp))
  | bl j=>cases ry;exact eq_bool (zI I q JR)
  | str j=>obtain ⟨t',rfl⟩:=ry;exact PySem.EqMixed.eq_bool_str (zI I q (by simp))
  | _=>exact absurd (show false=true from hs) ka
 | int i=>
  obtain ⟨t,rfl⟩:=rx
  cases y with
  | non=>cases ry;exact PySem.EqNone.eq_int_none (zI I q (by simp))
  | int j=>obtain ⟨t',rfl⟩:=ry;exact eq_int (zI I q z3f)
  | str j=>obtain ⟨t',rfl⟩:=ry;exact PySem.EqMixed.eq_int_str (zI I q (by simp))
  | _=>exact absurd (show false=true from hs) ka
 | str i=>
  obtain ⟨t,rfl⟩:=rx
  cases y with
  | non=>cases ry;exact PySem.EqNone.eq_str_none (zI I q (by simp))
  | bl j=>cases ry;exact PySem.EqMixed.eq_str_bool (zI I q (by simp))
  | int j=>obtain ⟨t',rfl⟩:=ry;exact PySem.EqMixed.eq_str_int (zI I q (by simp))
  | str j=>obtain ⟨t',rfl⟩:=ry;exact eq_str (zI I q z3e)
  | _=>exact absurd (show false=true from hs) ka
 | byt i=>
  obtain ⟨t,rfl⟩:=rx
  cases y with
  | byt j=>obtain ⟨t',rfl⟩:=ry;exact PySem.W.eq_bytes (zI I q z3g)
  | _=>exact absurd (show false=true from hs) ka
 | _=>cases y <;> exact absurd (show false=true from hs) ka
theorem z76:OpR X (compareOp .NotEq) rNe:=by
 intro pins s σ H x y v u Q I rx ry h
 obtain ⟨hs,q⟩:=h
 cases x with
 | non=>
  cases rx
  cases y with
  | non=>cases ry;exact PySem.EqNone.ne_none_none (zI I q (by simp))
  | bl j=>cases ry;exact PySem.EqNone.ne_none_bool (zI I q (by simp))
  | int j=>obtain ⟨t',rfl⟩:=ry;exact PySem.EqNone.ne_none_int (zI I q (by simp))
  | str j=>obtain ⟨t',rfl⟩:=ry;exact PySem.EqNone.ne_none_str (zI I q (by simp))
  | _=>exact absurd (show false=true from hs) ka
 | bl i=>
  cases rx
  cases y with
  | non=>cases ry;exact PySem.EqNone.ne_bool_none (zI I q (by simp))
  | bl j=>cases ry;exact ne_bool (zI I q (congrArg not JR))
  | str j=>obtain ⟨t',rfl⟩:=ry;exact PySem.EqMixed.ne_bool_str (zI I q (by simp))
  | _=>exact absurd (show false=true from hs) ka
 | int i=>
  obtain ⟨t,rfl⟩:=rx
  cases y with
  | non=>cases ry;exact PySem.EqNone.ne_int_none (zI I q (by simp))
  | int j=>obtain ⟨t',rfl⟩:=ry;exact ne_int (zI I q (congrArg not z3f))
  | str j=>obtain ⟨t',rfl⟩:=ry;exact PySem.EqMixed.ne_int_str (zI I q (by simp))
  | _=>exact absurd (show false=true from hs) ka
 | str i=>
  obtain ⟨t,rfl⟩:=rx
  cases y with
  | non=>cases ry;exact PySem.EqNone.ne_str_none (zI I q (by simp))
  | bl j=>cases ry;exact PySem.EqMixed.ne_str_bool (zI I q (by simp))
  | int j=>obtain ⟨t',rfl⟩:=ry;exact PySem.EqMixed.ne_str_int (zI I q (by simp))
  | str j=>obtain ⟨t',rfl⟩:=ry;exact ne_str (zI I q (congrArg not z3e))
  | _=>exact absurd (show false=true from hs) ka
 | byt i=>
  obtain ⟨t,rfl⟩:=rx
  cases y with
  | byt j=>obtain ⟨t',rfl⟩:=ry;exact PySem.W.ne_bytes (zI I q (congrArg not z3g))
  | _=>exact absurd (show false=true from hs) ka
 | _=>cases y <;> exact absurd (show false=true from hs) ka
theorem z3W:OpR X (compareOp .Lt) (rI0 fun i j=>.bl (decide (i < j))):=opB0 fun _ _ _ _ _ _ _ q=>lt_int q
theorem Zh:OpR X (compareOp .LtE) (rI0 fun i j=>.bl (decide (i≤j))):=opB0 fun _ _ _ _ _ _ _ q=>le_int q
theorem z0i:OpR X (compareOp .Gt) (rI0 fun i j=>.bl (decide (j < i))):=opB0 fun _ _ _ _ _ _ _ q=>gt_int q
theorem z8e:OpR X (compareOp .GtE) (rI0 fun i j=>.bl (decide (j≤i))):=opB0 fun _ _ _ _ _ _ _ q=>ge_int q
theorem jX:OpR X (compareOp .Is) (fun x y H Q=>y=.non∧Q (.bl (decide (x=.non))) H):=by
 intro pins s σ H x y v u Q I rx ry h
 obtain ⟨rfl,q⟩:=h
 cases ry
 refine is_none_gen (zI I q ?_)
 cases x <;> first
  | (cases rx;rfl)
  | (obtain ⟨t,rfl⟩:=rx;rfl)
theorem Zg:OpR X (compareOp .IsNot) (fun x y H Q=>y=.non∧Q (.bl (!decide (x=.non))) H):=by
 intro pins s σ H x y v u Q I rx ry h
 obtain ⟨rfl,q⟩:=h
 cases ry
 refine isnot_none_gen (zI I q ?_)
 cases x <;> first
  | (cases rx;rfl)
  | (obtain ⟨t,rfl⟩:=rx;rfl)
theorem zt (b:Expr) {op:CmpOp} (h:autoParam (op≠.In) aR._auto_2) (h2:autoParam (op≠.NotIn) aR._auto_2):behindInMarks op b=false:=by
 have e1:(op == CmpOp.In)=false:=by cases op <;> first | rfl | exact absurd rfl h
 have e2:(op == CmpOp.NotIn)=false:=by cases op <;> first | rfl | exact absurd rfl h2
 cases b <;> simp [behindInMarks,e1,e2]
theorem qi {op:CmpOp} {r:R2} (ho:OpR X (compareOp op) r) (ha:PE X a ta) (hb:PE X b tb) (hm:behindInMarks op b=false):PE X (.Compare a [op] [b] pos) (tOp r ta tb):=by
 intro pins s σ H Q I h
 exact wpAny_Compare1 (binT ha hb I h fun v u s2 x y H2 I2 rx ry q=>ho pins s2 σ H2 x y v u Q I2 rx ry q) hm
def z7O (t:TE):TT:=fun σ H Q=>t σ H fun x H'=>∃k,x=.bl k∧Q k H'
theorem zn {op:CmpOp} {r:R2} (ho:OpR X (compareOp op) r) (ha:PE X a ta) (hb:PE X b tb) (hm:behindInMarks op b=false):PT X (.Compare a [op] [b] pos) (z7O (tOp r ta tb)):=by
 intro pins s σ H Q I h
 refine wpAny_isTrue_Compare1 (thn (ha pins s σ H _ I h) fun v s1 ⟨x,H1,I1,r1,q1⟩=>thn (hb pins s1 σ H1 _ I1 q1) fun u s2 ⟨y,H2,I2,r2,q2⟩=>
  thn (ho pins s2 σ H2 x y v u _ I2 r1 r2 q2) fun c s3 ⟨z,H3,I3,r3,k,e,q3⟩=>?_) hm
 subst e
 cases r3
 exact wpAny_truthy_bool ⟨H3,I3,q3⟩
def z6J (r r':R2) (ta tb tc:TE):TE:=fun σ H Q=>ta σ H fun x H1=>tb σ H1 fun y H2=>r x y H2 fun z H3=>∃k,z=.bl k∧
 (if k=true then tc σ H3 fun w' H4=>r' y w' H4 Q else Q (.bl false) H3)
theorem jI {op op':CmpOp} {r r':R2} (ho:OpR X (compareOp op) r) (ho':OpR X (compareOp op') r') (ha:PE X a ta) (hb:PE X b tb) (hc:PE X c tc)
  (hm:lastMarks [op,op'] [b,c]=false:=by with_unfolding_all rfl):PE X (.Compare a [op,op'] [b,c] pos) (z6J r r' ta tb tc):=by
 intro pins s σ H Q I h
 refine Compare_chain (thn (ha pins s σ H _ I h) fun v s1 ⟨x,H1,I1,r1,q1⟩=>chain_link (thn (hb pins s1 σ H1 _ I1 q1) fun u s2 ⟨y,H2,I2,r2,q2⟩=>
  thn (ho pins s2 σ H2 x y v u _ I2 r1 r2 q2) fun d s3 ⟨z,H3,I3,r3,k,e,q3⟩=>?_)) hm
 subst e
 cases r3
 refine wpAny_truthy_bool ?_
 cases k with
 | false=>exact ite_ff ⟨.bl false,H3,I3,rfl,q3⟩
 | true=>exact ite_tt (chain_last (thn (hc pins s3 σ H3 _ I3 q3) fun w' s4 ⟨z',H4,I4,r4,q4⟩=>ho' pins s4 σ H4 y z' u w' Q I4 r2 r4 q4))
def TruV (K:ky) (x:V) (H:Hp) (k:Bool):Prop:=
 match x with
 | .non=>k=false
 | .bl b=>k=b
 | .int i=>k=(i != 0)
 | .str y=>y.length≤sizeLine∧k=((y.length:Int) != 0)
 | .byt y=>y.size≤sizeLine∧k=((y.size:Int) != 0)
 | .ref p=>(∃xs,SqL K H p xs∧k= !xs.isEmpty)∨(∃xs,SqT K H p xs∧k= !xs.isEmpty)∨∃kvs,H p=some (.dK kvs)∧k= !kvs.isEmpty
 | _=>False
theorem z1q {κ:Type} {kvs:List (κ × V)} {vs:List (κ × Value)} (r:KV kvs vs):(!vs.isEmpty)= !kvs.isEmpty:=by
 cases r <;> rfl
theorem Qw {xs:List V} {its:List Value} (r:Vals xs its):(!its.toArray.isEmpty)= !xs.isEmpty:=by
 cases r <;> simp
theorem Zw:(sizeLine:Nat) < 2 ^ 63:=by rw [sizeLine_eq];decide
theorem z6w:TruR X (fun x H Q=>∃k,TruV X.K x H k∧Q k H):=by
 intro pins s σ H x v Q I rx h
 obtain ⟨k,e,q⟩:=h
 have hl:=Zw
 have hs:sizeLine=16777216:=sizeLine_eq
 cases x with
 | non=>
  cases rx
  have e':k=false:=e
  subst e'
  exact truthy_none ⟨H,I,q⟩
 | bl b=>
  cases rx
  have e':k=b:=e
  subst e'
  exact wpAny_truthy_bool ⟨H,I,q⟩
 | int i=>
  obtain ⟨t,rfl⟩:=rx
  have e':k=(i != 0):=e
  subst e'
  exact PySem.P.truthy_int ⟨H,I,q⟩
 | str y=>
  obtain ⟨t,rfl⟩:=rx
  obtain ⟨hy,e'⟩:y.length≤sizeLine∧k=((y.length:Int) != 0):=e
  subst e'
  exact PySem.P.truthy_str (by lia) ⟨H,I.tok _,q⟩
 | byt y=>
  obtain ⟨t,rfl⟩:=rx
  obtain ⟨hy,e'⟩:y.size≤sizeLine∧k=((y.size:Int) != 0):=e
  subst e'
  exact PySem.W.truthy_bytes (by lia) ⟨H,I.tok _,q⟩
 | ref p=>
  cases rx
  have e':(∃xs,SqL X.K H p xs∧k= !xs.isEmpty)∨(∃xs,SqT X.K H p xs∧k= !xs.isEmpty)∨∃kvs,H p=some (.dK kvs)∧k= !kvs.isEmpty:=e
  rcases e' with ⟨xs,hx,e'⟩ | ⟨xs,hx,e'⟩ | ⟨kvs,hx,e'⟩
  ·subst e'
   obtain ⟨its,r,pl,hz⟩:=I.list hx
   have hlen:=r.length
   exact wpAny_truthy_list pl.isList (by simp only [kE];lia) ⟨H,I.tok _,by rw [Qw r];exact q⟩
  ·subst e'
   obtain ⟨its,r,pl,hz⟩:=I.tuple hx
   have hlen:=r.length
   exact truthy_tuple pl (by simp only [kE];lia) ⟨H,I.tok _,by rw [Qw r];exact q⟩
  ·subst e'
   obtain ⟨hz,hS,vs,r,m⟩:kvs.length≤sizeLine∧(p == sysModules)=false∧∃vs,KV kvs vs∧s.heap.DictOf (zK X.prog X.w) p vs:=I.hok p _ hx
   have hlen:kvs.length=vs.length:=Paired.length r
   exact wpAny_truthy_dict hS m (by lia) ⟨H,I.tok _,by rw [z1q r];exact q⟩
 | _=>exact (show False from e).elim
theorem jH (ha:PE X a ta) (he:∀whole,isTrue a X.env whole=(do let v ←whole;standAt a.pos;holding [v] (truthy v))):
  PT X a (fun σ H Q=>ta σ H fun x H'=>∃k,TruV X.K x H' k∧Q k H'):=by
 intro pins s σ H Q I h
 exact isTrue_plain (thn (ha pins s σ H _ I h) fun v s1 ⟨x,H1,I1,r1,q1⟩=>z6w pins s1 σ H1 x v Q I1 r1 q1) (he _)
theorem ZO {x:V} {us:List Value} (r:Vals [x] us):∃u,us=[u]∧RelV x u:=by
 cases r with
 | cons r1 r2=>cases r2;exact ⟨_,rfl,r1⟩
theorem z1N {x y:V} {us:List Value} (r:Vals [x,y] us):∃u w',us=[u,w']∧RelV x u∧RelV y w':=by
 cases r with
 | cons r1 r2=>
  cases r2 with
  | cons r3 r4=>cases r4;exact ⟨_,_,rfl,r1,r3⟩
theorem z13:jt X (.builtin "abs") (fun xs H Q=>∃i,xs=[.int i]∧Q (.int (if i < 0 then -i else i)) H):=by
 intro pins s σ H xs us Q I r h
 obtain ⟨i,rfl,q⟩:=h
 obtain ⟨u,rfl,t,rfl⟩:=ZO r
 exact call_abs_int fun u tk=>⟨.int (if i < 0 then -i else i),H,I.tok _,⟨_,rfl⟩,q⟩
theorem z3p (hc:X.calm=true):jt X (.builtin "max") (fun xs H Q=>∃i j,xs=[.int i,.int j]∧Q (.int (if j > i then j else i)) H):=by
 intro pins s σ H xs us Q I r h
 obtain ⟨i,j,rfl,q⟩:=h
 obtain ⟨u,w',rfl,⟨t,rfl⟩,⟨t',rfl⟩⟩:=z1N r
 refine max_two_ints (I.ok.hd hc) fun h' tk k=>⟨_,H,I.kept k,?_,q⟩
 by_cases hj:j > i
 ·rw [kA hj,kA hj];exact ⟨_,rfl⟩
 ·rw [kz hj,kz hj];exact ⟨_,rfl⟩
theorem z3o (hc:X.calm=true):jt X (.builtin "min") (fun xs H Q=>∃i j,xs=[.int i,.int j]∧Q (.int (if j < i then j else i)) H):=by
 intro pins s σ H xs us Q I r h
 obtain ⟨i,j,rfl,q⟩:=h
 obtain ⟨u,w',rfl,⟨t,rfl⟩,⟨t',rfl⟩⟩:=z1N r
 refine min_two_ints (I.ok.hd hc) fun h' tk k=>⟨_,H,I.kept k,?_,q⟩
 by_cases hj:j < i
 ·rw [kA hj,kA hj];exact ⟨_,rfl⟩
 ·rw [kz hj,kz hj];exact ⟨_,rfl⟩
end
end L2
namespace L2
open PySem PySem.Spec PyProof.Rows
structure ObjM (h:Heap) (x dx C:Addr) (mA:Str→Option Value):Prop where
 obj:h.get? x=some (PySem.W.instObj C dx)
 ns:h.Ns1 dx mA
 ne:dx≠x
theorem z2C {h:Heap} {dx:Addr} {mA:Str→Option Value} (n:h.Ns1 dx mA):∃od,h.get? dx=some od∧∀name,PySem.W.lookIn name od=some (mA name):=by
 obtain ⟨o,es,ep,ho,hd,hk,_,hm⟩:=n
 refine ⟨o,ho,fun name=>?_⟩
 have e:=hm name
 unfold nsFind findBy at e
 rw [←Array.find?_toList] at e
 unfold PySem.W.lookIn
 rw [hd]
 dsimp only
 split
 ·rename_i y q
  rw [q] at e
  exact congrArg some e
 ·rename_i q
  rw [q] at e
  have a:es.toList.any (·.refKey)=false:=by
   rw [List.any_eq_false]
   intro y hy
   obtain ⟨z,t,hkey⟩:=hk y (Array.mem_toList_iff.mp hy)
   simp [DictEntry.refKey,hkey]
  have a':¬es.toList.any (·.refKey)=true:=by rw [a];exact ka
  rw [kz a']
  exact congrArg some e
theorem ObjM.look {h:Heap} {x dx C:Addr} {mA:Str→Option Value} (I:ObjM h x dx C mA):∃od,PySem.W.InstAt h x (PySem.W.instObj C dx) C (some od)∧∀name,PySem.W.lookIn name od=some (mA name):=
 let ⟨od,ho,hl⟩:=z2C I.ns
 ⟨od,⟨I.obj,rfl,rfl,ho⟩,hl⟩
section
variable {prog:Program} {w:World} {A:Around} {E:Value→Shared→Prop} {s:Shared} {K:ky} {x dx C f:Addr} {mA:Str→Option Value} {name:Str} {v:Value}
theorem z5I {expr:Bool} {Q:Value→Shared→Prop} (X:K.In s.heap) (I:ObjM s.heap x dx C mA) (hg:PySem.W.plainGet K C name=true) (hh:PySem.W.hasDictIn K C=true)
  (ha:PySem.W.findIn K (.ref C) name=some none) (hv:mA name=some v) (hv':PySem.W.handedIn v=true) (h:Q v { s with toks:=s.toks+1 }):
  wpAny (model prog w) A (getAttr (.ref x) name expr) Q E s:=by
 obtain ⟨od,J,hl⟩:=I.look
 exact PySem.W.get_value X J (PySem.W.plainGet_of hg).1 (PySem.W.findObj_own hh ha rfl (by rw [hl,hv])) hv' h
theorem z4e {pl:Sem Bool} {Q:Value × List Value→Shared→Prop} (X:K.In s.heap) (I:ObjM s.heap x dx C mA) (hg:PySem.W.plainGet K C name=true)
  (hf:PySem.W.findIn K (.ref C) name=some (some (.ref f))) (ht:PySem.W.isFn K (.ref f)=true) (hv:mA name=none) (h:Q (.ref f,[.ref x]) s):
  wpAny (model prog w) A (getMethod (.ref x) name pl) Q E s:=by
 obtain ⟨od,J,hl⟩:=I.look
 exact PySem.W.method_fn X J (PySem.W.plainGet_of hg).1 (PySem.W.plainGet_of hg).2 hf (beq_iff_eq.mp ht) (by show (PySem.W.lookIn name od).map (·.isSome)=some false;rw [hl,hv];rfl) h
theorem z5l {ns:List Str} {Q:Unit→Shared→Prop} (X:K.In s.heap) (I:ObjM s.heap x dx C mA)
  (hs:PySem.W.findIn K (.ref C) "__setattr__"=some (some (.builtin "object.__setattr__"))) (hp:PySem.W.plainOver K C=true) (ht:PySem.W.takerIn K C name=some none) (hh:PySem.W.hasDictIn K C=true)
  (hw:PySem.Within mA ns) (hsz:ns.length≤sizeLine)
  (h:∀h',ObjM h' x dx C (fun y=>if y=name then some v else mA y)→Heap.SameBut dx s.heap h'→Q () { s with heap:=h',toks:=s.toks+2 }):
  wpAny (model prog w) A (setAttr (.ref x) name v) Q E s:=by
 obtain ⟨od,J,hl⟩:=I.look
 refine PySem.W.set_plain X J hs (PySem.W.osa_open (s:={ s with toks:=s.toks+1 }) (r:=none) X J hp ht fun b=>?_)
 obtain ⟨cd,hc,hd'⟩:=PySem.W.any_some hh
 have hx:s.heap.get? x=some ⟨.ref C,some dx,.plain,#[]⟩:=I.obj
 refine wpAny_bind (wpAny_pure (wpAny_bind (wpAny_bind (wpAny_loadPart hx (wpAny_bind (PySem.W.Looks.here (s:={ s with toks:=s.toks+1 }) (PySem.W.looks_clsIn X hc) ?_))))))
 rw [hd']
 refine wpAny_pure (a:=some dx) (wpAny_bind (wpAny_pure (wpAny_bind ?_)))
 refine wpAny_nsSet1 (s:={ s with toks:=s.toks+1 }) I.ns fun h' hn2 hs2=>?_
 obtain ⟨oD,esD,epD,hoD,hdD,hcD⟩:=hn2.count (PySem.Within.cons name v hw)
 refine wpAny_bind (wpAny_lookBehind hoD (by rw [hdD];exact pastItsLine_dict (ku hcD (by rw [kO];lia))) ?_)
 exact wpAny_pure (h _ ⟨(hs2.2 _ (Ne.symm I.ne)).trans I.obj,hn2,I.ne⟩ hs2)
theorem z42 {R:Result→Shared→Prop} {vs:List Value} {kw:List (Str × Value)} (X:K.In s.heap) (hm:PySem.W.makesIn K C=true)
  (hi:PySem.W.findIn K (.ref C) "__init__"=some (some (.ref f))) (hf:PySem.W.typeIn K (.ref f)=some (.type "function"))
  (h:codeAny (model prog w) (A.under (.builtin "type.__call__" ⟨.ref C :: vs,kw⟩)) (.call (.ref f) ⟨.ref (s.heap.objs.size+1) :: vs,kw⟩) (PySem.W.InitBack (s.heap.objs.size+1) R)
   { s with heap:=(s.heap.push PySem.W.emptyDict).push (PySem.W.instObj C s.heap.objs.size) }):
  codeAny (model prog w) A (.call (.ref C) ⟨vs,kw⟩) R s:=by
 obtain ⟨hh,g,d,t,os⟩:=s
 exact PySem.W.make_core (PySem.W.makes_of X hm) (PySem.W.looks_findIn X hi) (fun self=>PySem.W.bind_fn X self hf) (.inl rfl) h
end
noncomputable def putF (f:Str) (v:V):List (Str × V)→List (Str × V)
 | []=>[(f,v)]
 | (g,x) :: r=>if g=f then (g,v) :: r else (g,x) :: putF f v r
theorem Q0 (f g:Str) (v:V):∀fs:List (Str × V),(putF f v fs).lookup g=if g=f then some v else fs.lookup g
 | []=>by
  show List.lookup g [(f,v)]=_
  by_cases h:g=f
  ·have hb:(g == f)=true:=beq_iff_eq.mpr h
   simp only [List.lookup,hb,kA h]
  ·have hb:(g == f)=false:=beq_eq_false_iff_ne.mpr h
   simp only [List.lookup,hb,kz h]
 | (k,x) :: r=>by
  have ih:=Q0 f g v r
  rw [show putF f v ((k,x) :: r)=(if k=f then (k,v) :: r else (k,x) :: putF f v r) from rfl]
  by_cases hk:k=f
  ·rw [kA hk]
   by_cases h:g=k
   ·have hb:(g == k)=true:=beq_iff_eq.mpr h
    simp only [List.lookup,hb,kA (h.trans hk)]
   ·have hb:(g == k)=false:=beq_eq_false_iff_ne.mpr h
    simp only [List.lookup,hb,kz (fun e:g=f=>h (e.trans hk.symm))]
  ·rw [kz hk]
   by_cases h:g=k
   ·have hb:(g == k)=true:=beq_iff_eq.mpr h
    simp only [List.lookup,hb,kz (fun e:g=f=>hk (h.symm.trans e))]
   ·have hb:(g == k)=false:=beq_eq_false_iff_ne.mpr h
    simp only [List.lookup,hb]
    exact ih
theorem Q2 (f:Str) (v:V):∀fs:List (Str × V),f∈(putF f v fs).map (·.1)∧∀g,g∈fs.map (·.1)→g∈(putF f v fs).map (·.1)
 | []=>⟨by simp [putF],fun g h=>by simp at h⟩
 | (k,x) :: r=>by
  obtain ⟨i1,i2⟩:=Q2 f v r
  rw [show putF f v ((k,x) :: r)=(if k=f then (k,v) :: r else (k,x) :: putF f v r) from rfl]
  by_cases hk:k=f
  ·rw [kA hk]
   subst hk
   exact ⟨by simp,fun g h=>by simpa using h⟩
  ·rw [kz hk]
   refine ⟨?_,fun g h=>?_⟩
   ·rw [kS]
    exact kQ _ i1
   ·rw [kS] at h ⊢
    rcases kD.mp h with e | e
    ·exact kD.mpr (.inl e)
    ·exact kQ _ (i2 g e)
theorem Q1 (f:Str) (v:V):∀fs:List (Str × V),(putF f v fs).length≤fs.length+1
 | []=>by simp [putF]
 | (k,x) :: r=>by
  have ih:=Q1 f v r
  rw [show putF f v ((k,x) :: r)=(if k=f then (k,v) :: r else (k,x) :: putF f v r) from rfl]
  by_cases hk:k=f
  ·rw [kA hk,kO,kO];lia
  ·rw [kz hk,kO,kO];lia
theorem RelO.some_of {v:V} {o:Option Value} (r:RelO (some v) o):∃u,o=some u∧RelV v u:=by
 cases o with
 | none=>exact (show False from r).elim
 | some u=>exact ⟨u,rfl,r⟩
theorem RelO.none_of {o:Option Value} (r:RelO none o):o=none:=by
 cases o with
 | none=>rfl
 | some u=>exact (show False from r).elim
theorem z2N {v:V} {u:Value} (r:RelV v u):PySem.W.handedIn u=true:=by
 cases v with
 | non=>cases (show u=Value.none from r);rfl
 | bl b=>cases (show u=Value.bool b from r);rfl
 | int i=>obtain ⟨t,e⟩:=(show ∃t,u=Value.int i t from r);cases e;rfl
 | str x=>obtain ⟨t,e⟩:=(show ∃t,u=Value.str x t from r);cases e;rfl
 | byt b=>obtain ⟨t,e⟩:=(show ∃t,u=Value.bytes b t from r);cases e;rfl
 | flt b=>obtain ⟨t,e⟩:=(show ∃t,u=Value.float b t from r);cases e;rfl
 | ref a=>cases (show u=Value.ref a from r);rfl
 | ty n=>cases (show u=Value.type n from r);rfl
section
variable {P:Program} {w:World} {H H':Hp} {h h':Heap} {a C dx:Addr} {fs fs':List (Str × V)}
theorem QT (hok:HOk P w H h) (e:H a=some (.ins C dx fs)):∃mA,ObjM h a dx C mA∧(∀f,RelO (fs.lookup f) (mA f))∧PySem.Within mA (fs.map (·.1))∧fs.length≤1000∧H dx=some (.own a):=by
 obtain ⟨d,z,ne,ob,mA,n,r,q⟩:=(show zZ P w H h a (.ins C dx fs) from hok a _ e)
 exact ⟨mA,⟨ob,n,ne⟩,r,q,z,d⟩
end
structure Cls (K:ky) (C:Addr):Prop where
 pg:PySem.W.plainGet K C Str.empty=true
 hd:PySem.W.hasDictIn K C=true
 po:PySem.W.plainOver K C=true
 sa:PySem.W.findIn K (.ref C) "__setattr__"=some (some (.builtin "object.__setattr__"))
theorem Cls.get {K:ky} {C:Addr} (c:Cls K C) (f:Str):PySem.W.plainGet K C f=true:=c.pg
def qP (K:ky) (C:Addr) (f:Str):Prop:=PySem.W.findIn K (.ref C) f=some none
theorem qP.taker {K:ky} {C:Addr} {f:Str} (n:qP K C f):PySem.W.takerIn K C f=some none:=by
 unfold PySem.W.takerIn
 rw [show PySem.W.findIn K (.ref C) f=some none from n]
 rfl
structure Meth (K:ky) (C:Addr) (m:Str) (f:Addr):Prop where
 at_:PySem.W.findIn K (.ref C) m=some (some (.ref f))
 fn:PySem.W.isFn K (.ref f)=true
 kp:PySem.W.keepIn K (.ref f)=true
section
variable {X:Cx} {pins:List (Addr × Obj)} {σ:St} {H:Hp} {s:Shared} {a C dx:Addr} {fs:List (Str × V)} {f:Str} {v:V} {A:Around} {E:Value→Shared→Prop}
theorem z1t {b:Bool} {Q:Value→Shared→Prop} (I:Inv X pins σ H s) (e:H a=some (.ins C dx fs)) (c:Cls X.K C) (n:qP X.K C f) (l:fs.lookup f=some v)
  (h:∀u s',Inv X pins σ H s'→RelV v u→Q u s'):wpAny (model X.prog X.w) A (getAttr (.ref a) f b) Q E s:=by
 obtain ⟨mA,O,r,_,_,_⟩:=QT I.hok e
 obtain ⟨u,hu,ru⟩:=RelO.some_of (v:=v) (o:=mA f) (by rw [←l];exact r f)
 exact z5I I.kIn O (c.get f) c.hd n hu (z2N ru) (h u _ (I.tok _) ru)
theorem Qx {m:Str} {g:Addr} {pl:Sem Bool} {Q:Value × List Value→Shared→Prop} (I:Inv X pins σ H s) (e:H a=some (.ins C dx fs)) (c:Cls X.K C) (k:Meth X.K C m g) (l:fs.lookup m=none)
  (h:Q (.ref g,[.ref a]) s):wpAny (model X.prog X.w) A (getMethod (.ref a) m pl) Q E s:=by
 obtain ⟨mA,O,r,_,_,_⟩:=QT I.hok e
 have hn:mA m=none:=RelO.none_of (by rw [←l];exact r m)
 exact z4e I.kIn O (c.get m) k.at_ k.fn hn h
theorem z1c {y:V} {u:Value} {Q:Unit→Shared→Prop} (I:Inv X pins σ H s) (e:H a=some (.ins C dx fs)) (c:Cls X.K C) (n:qP X.K C f) (hl:fs.length < 1000) (ry:RelV y u)
  (h:∀s',Inv X pins σ (upd H a (.ins C dx (putF f y fs))) s'→Q () s'):wpAny (model X.prog X.w) A (setAttr (.ref a) f u) Q E s:=by
 obtain ⟨mA,O,r,wi,_,ho⟩:=QT I.hok e
 have hz:(fs.map (·.1)).length≤sizeLine:=by rw [kj,sizeLine_eq];lia
 refine z5l I.kIn O c.sa c.po n.taker c.hd wi hz fun h' O' sb=>h _ ?_
 have hd:∃o,h'.get? dx=some o:=let ⟨o,_,_,e',_⟩:=O'.ns;⟨o,e'⟩
 refine I.write (x:=a) (e:=dx) (by rw [e];exact True.intro) (.inr ho) (fun b q hb z=>(sb.2 b hb).trans z) hd ?_
 refine ⟨by rw [ze O.ne];exact ho,?_,O.ne,O'.obj,_,O'.ns,fun g=>?_,fun g hg=>?_⟩
 ·have:=Q1 f y fs;lia
 ·show RelO ((putF f y fs).lookup g) (if g=f then some u else mA g)
  rw [Q0]
  by_cases q:g=f
  ·rw [kA q,kA q];exact ry
  ·rw [kz q,kz q];exact r g
 ·by_cases q:g=f
  ·rw [q];exact (Q2 f y fs).1
  ·refine (Q2 f y fs).2 g (wi g fun z=>hg ?_)
   show (if g=f then some u else mA g)=none
   rw [kz q];exact z
theorem Inv.made (I:Inv X pins σ H s):Inv X pins σ (upd (upd H s.heap.objs.size (.own (s.heap.objs.size+1))) (s.heap.objs.size+1) (.ins C s.heap.objs.size []))
  { s with heap:=(s.heap.push PySem.W.emptyDict).push (PySem.W.instObj C s.heap.objs.size) }:=by
 have e1:(s.heap.push PySem.W.emptyDict).get? s.heap.objs.size=some PySem.W.emptyDict:=Heap.get?_push_size s.heap rfl
 have e2:((s.heap.push PySem.W.emptyDict).push (PySem.W.instObj C s.heap.objs.size)).get? (s.heap.objs.size+1)=some (PySem.W.instObj C s.heap.objs.size):=by
  have:=Heap.get?_push_size (s.heap.push PySem.W.emptyDict) (o:=PySem.W.instObj C s.heap.objs.size) rfl
  rwa [Heap.size_push] at this
 have e3:(s.heap.push PySem.W.emptyDict).Ns s.heap.objs.size (fun _=>none):=⟨PySem.W.emptyDict,#[],_,e1,rfl,(fun e he=>absurd he (by simp)),fun _=>rfl⟩
 have I1:=I.laid (a:=s.heap.objs.size) (o:=.own (s.heap.objs.size+1)) (h':=s.heap.push PySem.W.emptyDict) (t':=s.toks) (fun b u q=>Heap.get?_push_of_some _ q) (ke _) ⟨_,e1⟩
 refine I1.laid (a:=s.heap.objs.size+1) (o:=.ins C s.heap.objs.size []) (t':=s.toks) (fun b u q=>Heap.get?_push_of_some _ q) (kX (Heap.size_push _ _)) ?_
 have ne:s.heap.objs.size≠s.heap.objs.size+1:=Nat.ne_of_lt (ya _)
 refine ⟨by rw [ze ne,z7],Nat.zero_le _,ne,e2,fun _=>none,(Heap.Ns1.of_empty e3).at fun o q=>Heap.get?_push_of_some _ q,fun _=>True.intro,fun y hy=>absurd rfl hy⟩
theorem z6q {prog:Program} {w:World} {env:Env} {e:Expr} {f:Str} {pos:Pos} {s:Shared} {Q:Value→Shared→Prop} (hb:attributeBase e f env (eval e env)=eval e env)
  (h:wpAny (model prog w) A (eval e env) (fun o s₁=>wpAny (model prog w) A (getAttr o f true) Q E s₁) E s):wpAny (model prog w) A (eval (.Attribute e f pos) env) Q E s:=
 Attribute_any_ h (by rw [arm_eval_Attribute,hb])
end
def tFld (K:ky) (ta:TE) (f:Str):TE:=fun σ H Q=>ta σ H fun x H1=>∃a C dx fs v,x=.ref a∧H1 a=some (.ins C dx fs)∧Cls K C∧qP K C f∧fs.lookup f=some v∧Q v H1
def sFld (K:ky) (ta tv:TE) (f:Str):TS:=fun D σ H=>tv σ H fun y H1=>ta σ H1 fun x H2=>∃a C dx fs,x=.ref a∧H2 a=some (.ins C dx fs)∧Cls K C∧qP K C f∧fs.length < 1000∧
 D.nx σ (upd H2 a (.ins C dx (putF f y fs)))
section
variable {X:Cx} {o e value:Expr} {f:Str} {pos pos' tpos:Pos} {ta tv:TE}
theorem zC (he:PE X e ta) (hb:attributeBase e f X.env (eval e X.env)=eval e X.env):PE X (.Attribute e f pos) (tFld X.K ta f):=by
 intro pins s σ H Q I h
 refine z6q hb (thn (he pins s σ H _ I h) fun u s1 zz=>?_)
 obtain ⟨x,H1,I1,rx,a,C,dx,fs,v,ex,ea,c,n,l,q⟩:=zz
 subst ex
 obtain rfl:u=Value.ref a:=rx
 exact z1t I1 ea c n l fun u' s2 I2 ru=>⟨v,H1,I2,ru,q⟩
theorem qN (ha:PE X o ta) (hv:PE X value tv) (hs:swapsWith value (some (.Attribute o f pos')) pos.line X.env=pure false):PS X (.Assign [.Attribute o f pos'] value pos) (sFld X.K ta tv f):=by
 intro pins s σ H D I h
 refine plainObj_wpAny_Assign_Attribute (thn (hv pins s σ H _ I h) fun u s1 ⟨y,H1,I1,ry,q⟩=>thn (ha pins s1 σ H1 _ I1 q) fun ov s2 ⟨x,H2,I2,rx,a,C,dx,fs,ex,ea,c,n,l,q2⟩=>?_) hs
 subst ex
 obtain rfl:ov=Value.ref a:=rx
 exact z1c I2 ea c n l ry fun s3 I3=>⟨σ,_,I3,q2⟩
end
section
variable {X:Cx} {pins:List (Addr × Obj)} {σ:St} {H:Hp} {s:Shared} {A:Around} {E:Value→Shared→Prop} {Q:Value→Shared→Prop} {c:Value} {b:Bool}
inductive TyOf (K:ky) (H:Hp):V→Value→Prop where
 | non:TyOf K H .non (.type "NoneType")
 | bl (x:Bool):TyOf K H (.bl x) (.type "bool")
 | int (i:Int):TyOf K H (.int i) (.type "int")
 | str (x:Str):TyOf K H (.str x) (.type "str")
 | flt (x:UInt64):TyOf K H (.flt x) (.type "float")
 | lst {a:Addr} {xs:List V} (e:H a=some (.lst xs)):TyOf K H (.ref a) (.type "list")
 | frz {a:Addr} {o:Obj} {xs:List V} (e:H a=some (.frz o (.lst xs))):TyOf K H (.ref a) (.type "list")
 | tup {a:Addr} {xs:List V} (e:H a=some (.tup xs)):TyOf K H (.ref a) (.type "tuple")
 | dK {a:Addr} {kvs:List (Key × V)} (e:H a=some (.dK kvs)):TyOf K H (.ref a) (.type "dict")
 | dT {a:Addr} {kvs:List (List Key × V)} (e:H a=some (.dT kvs)):TyOf K H (.ref a) (.type "dict")
 | ins {a C dx:Addr} {fs:List (Str × V)} (e:H a=some (.ins C dx fs)) (cl:Cls K C) (ha:PySem.W.findIn K (.ref C) "__class__"=some (some (.builtin "object.__class__")))
   (hn:PySem.W.specialIn K (.builtin "object.__class__") "__get__"=some (some (.builtin "getset_descriptor.__get__"))) (htk:PySem.W.takesIn K (.builtin "object.__class__")=some true)
   (hm:PySem.W.mroIn K C (.type "object")=some true):TyOf K H (.ref a) (.ref C)
theorem z2J {x:V} {u t:Value} (I:Inv X pins σ H s) (rx:RelV x u) (ty:TyOf X.K H x t) (e:PySem.W.kitOne X.K t c=some b) (h:∀tk,Q (.bool b) { s with toks:=tk }):
  wpAny (model X.prog X.w) A (call (.builtin "isinstance") [u,c]) Q E s:=by
 cases ty with
 | non=>cases (show u=Value.none from rx);exact PySem.W.kia_one PySem.W.kitx_none I.kIn True.intro e (fun z=>nomatch z) h
 | bl y=>cases (show u=Value.bool y from rx);exact PySem.W.kia_one PySem.W.kitx_bool I.kIn True.intro e (fun z=>nomatch z) h
 | int i=>obtain ⟨t,q⟩:=(show ∃t,u=Value.int i t from rx);cases q;exact PySem.W.kia_one PySem.W.kitx_int I.kIn True.intro e (fun z=>nomatch z) h
 | str y=>obtain ⟨t,q⟩:=(show ∃t,u=Value.str y t from rx);cases q;exact PySem.W.kia_one PySem.W.kitx_str I.kIn True.intro e (fun z=>nomatch z) h
 | flt y=>obtain ⟨t,q⟩:=(show ∃t,u=Value.float y t from rx);cases q;exact PySem.W.kia_one PySem.W.kitx_float I.kIn True.intro e (fun z=>nomatch z) h
 | @lst a xs ea=>
  cases (show u=Value.ref a from rx)
  obtain ⟨_,_,n,_,h1⟩:=(show zZ X.prog X.w H s.heap a (.lst xs) from I.hok a _ ea)
  exact PySem.W.kia_one PySem.W.kitx_list I.kIn ⟨_,h1,rfl⟩ e (fun z=>nomatch z) h
 | @frz a ob xs ea=>
  cases (show u=Value.ref a from rx)
  obtain ⟨_,_,_,n,_,h1⟩:=(show zZ X.prog X.w H s.heap a (.frz ob (.lst xs)) from I.hok a _ ea)
  exact PySem.W.kia_one PySem.W.kitx_list I.kIn ⟨_,h1,rfl⟩ e (fun z=>nomatch z) h
 | @tup a xs ea=>
  cases (show u=Value.ref a from rx)
  obtain ⟨_,_,_,p⟩:=(show zZ X.prog X.w H s.heap a (.tup xs) from I.hok a _ ea)
  obtain ⟨o,h1,h2,_⟩:=p
  exact PySem.W.kia_one PySem.W.kitx_tuple I.kIn ⟨o,h1,h2⟩ e (fun z=>nomatch z) h
 | @dK a kvs ea=>
  cases (show u=Value.ref a from rx)
  obtain ⟨_,_,vs,_,p⟩:=(show zZ X.prog X.w H s.heap a (.dK kvs) from I.hok a _ ea)
  obtain ⟨o,es,ep,h1,h2,_⟩:=p
  exact PySem.W.kia_one PySem.W.kitx_dict I.kIn ⟨o,h1,h2.1⟩ e (fun z=>nomatch z) h
 | @dT a kvs ea=>
  cases (show u=Value.ref a from rx)
  obtain ⟨_,_,xs,_,o,es,ep,h1,h2,_⟩:=(show zZ X.prog X.w H s.heap a (.dT kvs) from I.hok a _ ea)
  exact PySem.W.kia_one PySem.W.kitx_dict I.kIn ⟨o,h1,h2.1⟩ e (fun z=>nomatch z) h
 | @ins a C dx fs ea cl ha hn htk hm=>
  cases (show u=Value.ref a from rx)
  obtain ⟨mA,O,_⟩:=QT I.hok ea
  obtain ⟨od,J,_⟩:=O.look
  exact PySem.W.kia_one (PySem.W.kitx_own (cl.get _) cl.hd ha hn htk hm) I.kIn J e (fun z=>nomatch z) h
end
end L2
namespace L2
open PySem PySem.Spec PyProof.Rows
structure Room (k:Nat) (A:Around):Prop where
 hd:A.handled=none
 dp:A.depth+3 * k+5 < recursionLimit
 un:A.units+16 * k+200 < cLine
 gd:A.guards=some []
theorem Room.mono {j k:Nat} {A:Around} (r:Room k A) (h:j≤k):Room j A:=⟨r.hd,by have:=r.dp;lia,by have:=r.un;lia,r.gd⟩
theorem Room.deeper {k:Nat} {A:Around} (r:Room (k+1) A) (env:Env):Room k (A.deeper env):=
 ⟨r.hd,by have:=r.dp;show A.depth+1+3 * k+5 < _;lia,by have:=r.un;show A.units+3+16 * k+200 < _;lia,r.gd⟩
theorem Room.in1 {k:Nat} {A:Around} (r:Room (k+1) A):Room k A.in1:=
 ⟨r.hd,by have:=r.dp;show A.depth+3 * k+5 < _;lia,by have:=r.un;show A.units+1+16 * k+200 < _;lia,r.gd⟩
theorem z1n {A:Around} {C:Addr} {us:List Value} {kw:List (Str × Value)}:(A.under (.builtin "type.__call__" ⟨.ref C :: us,kw⟩)).depth=A.depth+1:=by
 first | rfl | simp [Around.under,Code.weight,Code.isCreation,Code.isGuard,Code.isCaller,Code.frames,Code.isFrame,guardIds]
theorem z1m {A:Around} {C:Addr} {us:List Value} {kw:List (Str × Value)}:(A.under (.builtin "type.__call__" ⟨.ref C :: us,kw⟩)).units=A.units+1:=by
 first | rfl | simp [Around.under,Code.cUnits,Code.frames,Code.isFrame]
theorem z0m {A:Around} {C:Addr} {us:List Value} {kw:List (Str × Value)}:(A.under (.builtin "type.__call__" ⟨.ref C :: us,kw⟩)).guards=A.guards:=by
 first | rfl | simp [Around.under,Code.isGuard,guardIds,pushGuard]
theorem Room.make {k:Nat} {A:Around} (r:Room (k+1) A) (C:Addr) (us:List Value) (kw:List (Str × Value)):Room k (A.under (.builtin "type.__call__" ⟨.ref C :: us,kw⟩)):=
 ⟨r.hd,by have:=r.dp;rw [z1n];lia,by have:=r.un;rw [z1m];lia,by rw [z0m];exact r.gd⟩
theorem Room.depth {k:Nat} {A:Around} (r:Room k A):A.depth < recursionLimit:=by have:=r.dp;lia
theorem Room.units {k:Nat} {A:Around} (r:Room k A):A.units+64 < cLine:=by have:=r.un;lia
theorem Room.units0 {k:Nat} {A:Around} (r:Room k A):A.units < cLine:=by have:=r.un;lia
abbrev tNil:TA:=fun _ H Q=>Q [] H
abbrev z06 (ta:TE) (tr:TA):TA:=fun σ H Q=>ta σ H fun x H1=>tr σ H1 fun xs H2=>Q (x :: xs) H2
section
variable {X:Cx} {e:Expr} {es:List Expr} {te:TE} {t:TA} {pos:Pos}
theorem z8:PA X [] tNil:=fun _ _ _ _ H Q I h=>Calls.spliced_nil ⟨[],H,I,.nil,h⟩
theorem z6 (ha:PE X e te) (hr:PA X es t) (hs:autoParam (starEach (e :: es) X.env=(false,eval e X.env) :: starEach es X.env) aR._auto_1):PA X (e :: es) (z06 te t):=by
 intro pos pins s σ H Q I h
 rw [hs]
 show wpAny _ _ (spliced ((false,eval e X.env) :: backTo pos (starEach es X.env))) _ _ s
 refine Calls.spliced_cons (thn (ha pins s σ H _ I h) fun u s1 zz=>?_)
 obtain ⟨x,H1,I1,r1,q1⟩:=zz
 exact thn (hr pos pins s1 σ H1 _ I1 q1) fun us s2 ⟨xs,H2,I2,r2,q2⟩=>⟨x :: xs,H2,I2,.cons r1 r2,q2⟩
def tTup (t:TA):TE:=fun σ H Q=>t σ H fun xs H1=>xs.length≤sizeLine∧∀p,H1 p=none→Q (.ref p) (upd H1 p (.tup xs))
def tLst (t:TA):TE:=fun σ H Q=>t σ H fun xs H1=>xs.length≤sizeLine∧∀p,H1 p=none→Q (.ref p) (upd H1 p (.lst xs))
theorem zB {x1} (h:PA X es t):PE X (.Tuple es x1 pos) (tTup t):=by
 intro pins s σ H Q I hq
 refine wpAny_Tuple_spliced (thn (h pos pins s σ H _ I hq) fun us s1 ⟨xs,H1,I1,r,z,q⟩=>⟨by rw [←r.length];exact z,?_⟩)
 have hf:H1 s1.heap.objs.size=none:=I1.hok.fresh (ke _)
 refine ⟨.ref s1.heap.objs.size,upd H1 s1.heap.objs.size (.tup xs),I1.laid (t':=s1.toks) (fun b u e=>Heap.get?_push_of_some _ e) (ke _) ?_,rfl,q _ hf⟩
 exact ⟨z,us,r,⟨_,Heap.get?_push_size _ rfl,rfl,_,rfl⟩⟩
theorem qe (h:PA X es t):PE X (.List es pos) (tLst t):=by
 intro pins s σ H Q I hq
 refine wpAny_List_spliced (thn (h pos pins s σ H _ I hq) fun us s1 ⟨xs,H1,I1,r,z,q⟩=>⟨by rw [←r.length];exact z,?_⟩)
 have hf:H1 s1.heap.objs.size=none:=I1.hok.fresh (ke _)
 refine ⟨.ref s1.heap.objs.size,upd H1 s1.heap.objs.size (.lst xs),I1.laid (t':=s1.toks) (fun b u e=>Heap.get?_push_of_some _ e) (ke _) ?_,rfl,q _ hf⟩
 exact ⟨z,us,0,r,Heap.get?_push_size _ rfl⟩
end
abbrev Sp:=List V→Hp→VK→XK→Prop
abbrev CXT:=List Env→Hp→Shared→XK→Value→Shared→Prop
structure Env0 (P:Program) (w:World) (K:ky) (mg:Str→Option Value) (base:Heap) (A:Around) (outer:List Env) (s:Shared) (H:Hp):Prop where
 frames:A.frames=some outer
 mod:Mod K mg base
 bs:∀b o,base.get? b=some o→s.heap.get? b=some o∧H b=none
 bsz:base.objs.size≤s.heap.objs.size
 funs:s.heap.FunFrames base outer
 frf:∀b∈frs outer,H b=none
 hok:HOk P w H s.heap
 bare:AllBare s.gens
def CE (outer:List Env) (P:Program) (w:World) (H:Hp) (s:Shared) (Q:VK) (u:Value) (s':Shared):Prop:=
 ∃v H',s'.os=s.os∧AllBare s'.gens∧Un (frs outer) [] H H' s.heap s'.heap∧HOk P w H' s'.heap∧RelV v u∧Q v H'
def CR (CX:CXT) (outer:List Env) (P:Program) (w:World) (H:Hp) (s:Shared) (Q:VK) (E:XK) (r:Result) (s':Shared):Prop:=
 match r with
 | .ok (.ret u)=>CE outer P w H s Q u s'
 | .ok _=>False
 | .error e=>CX outer H s E e s'
structure FnOk (P:Program) (w:World) (K:ky) (mg:Str→Option Value) (base:Heap) (CX:CXT) (k:Nat) (f:Addr) (fd:FuncData) (ps:List Str) (sp:Sp):Prop where
 len:∀vs H Q E,sp vs H Q E→vs.length=ps.length
 run:∀(A:Around) (outer:List Env) (s:Shared) (H:Hp) (args:Args) (us:List Value) (vs:List V) (Q:VK) (E:XK),Room k A→Env0 P w K mg base A outer s H→BindsTo s fd args (ps.zip us)→Vals vs us→sp vs H Q E→
  codeAny (model P w) A (.call (.ref f) args) (CR CX outer P w H s Q E) s
theorem FnOk.mono {P:Program} {w:World} {K:ky} {mg:Str→Option Value} {base:Heap} {CX:CXT} {j k:Nat} {f:Addr} {fd:FuncData} {ps:List Str} {sp:Sp} (F:FnOk P w K mg base CX j f fd ps sp) (h:j≤k):
  FnOk P w K mg base CX k f fd ps sp:=⟨F.len,fun A outer s H args us vs Q E hr=>F.run A outer s H args us vs Q E (hr.mono h)⟩
theorem FnOk.imp {P:Program} {w:World} {K:ky} {mg:Str→Option Value} {base:Heap} {CX:CXT} {k:Nat} {f:Addr} {fd:FuncData} {ps:List Str} {sp sp':Sp} (F:FnOk P w K mg base CX k f fd ps sp)
  (h:∀vs H Q E,sp' vs H Q E→sp vs H Q E):FnOk P w K mg base CX k f fd ps sp':=
 ⟨fun vs H Q E q=>F.len vs H Q E (h _ _ _ _ q),fun A outer s H args us vs Q E hr he hb hv hs=>F.run A outer s H args us vs Q E hr he hb hv (h _ _ _ _ hs)⟩
theorem Env0.make {P:Program} {w:World} {K:ky} {mg:Str→Option Value} {base:Heap} {A:Around} {outer:List Env} {s:Shared} {H:Hp} (e:Env0 P w K mg base A outer s H) (C:Addr) (us:List Value) (kw:List (Str × Value)):
  Env0 P w K mg base (A.under (.builtin "type.__call__" ⟨.ref C :: us,kw⟩)) outer s H:=⟨by first | exact e.frames | (simpa [Around.under,Code.envs,Code.isFrame,pushEnvs] using e.frames),e.mod,e.bs,e.bsz,e.funs,e.frf,e.hok,e.bare⟩
theorem Env0.in1 {P:Program} {w:World} {K:ky} {mg:Str→Option Value} {base:Heap} {A:Around} {outer:List Env} {s:Shared} {H:Hp} (e:Env0 P w K mg base A outer s H):
  Env0 P w K mg base A.in1 outer s H:=⟨e.frames,e.mod,e.bs,e.bsz,e.funs,e.frf,e.hok,e.bare⟩
section
variable {X:Cx} {pins:List (Addr × Obj)} {σ:St} {H:Hp} {s s':Shared}
theorem Inv.env0 (I:Inv X pins σ H s):Env0 X.prog X.w X.K X.mg X.base X.A X.stack s H:=
 ⟨I.ok.frames,I.ok.mod,I.bs,ku I.ok.bsz I.sz,I.stack,I.stkFree,I.hok,I.bare⟩
theorem Inv.after {Q:VK} {u:Value} (I:Inv X pins σ H s) (h:CE X.stack X.prog X.w H s Q u s'):EP X pins σ Q u s':=by
 obtain ⟨v,H',os,bare,un,hok,r,q⟩:=h
 obtain ⟨hh,g,d,t,os'⟩:=s'
 obtain rfl:os'=s.os:=os
 exact ⟨v,H',I.call (h':=hh) (g':=g) (d':=d) (t':=t) (ch:=[]) un hok bare (fun b z=>absurd z (by simp)),r,q⟩
end
abbrev z5c (sp:Sp) (dvs:List V) (E:XK) (t:TA):TE:=fun σ H Q=>t σ H fun vs H1=>sp (vs++dvs) H1 Q E
def z1a (C:Addr) (m:Str) (sp:Sp) (dvs:List V) (E:XK) (ta:TE) (t:TA):TE:=fun σ H Q=>ta σ H fun x H1=>∃a dx fs,x=.ref a∧H1 a=some (.ins C dx fs)∧fs.lookup m=none∧
 t σ H1 fun vs H2=>sp (x :: (vs++dvs)) H2 Q E
def z59 (C:Addr) (sp:Sp) (dvs:List V) (E:XK) (t:TA):TE:=fun σ H Q=>t σ H fun vs H1=>∀x dx,H1 x=none→H1 dx=none→dx≠x→
 sp (.ref x :: (vs++dvs)) (upd (upd H1 dx (.own x)) x (.ins C dx [])) (fun v H2=>v=.non∧Q (.ref x) H2) E
def jG (K:ky) (fd:FuncData) (ps:List Str) (ds:List Value):Prop:=
 ∀(s:Shared) (us:List Value),K.In s.heap→(us++ds).length=ps.length→BindsTo s fd ⟨us,[]⟩ (ps.zip (us++ds))
theorem jG.all {K:ky} {fd:FuncData} {ps:List Str} (h:∀us:List Value,us.length=ps.length→bindArgs fd ⟨us,[]⟩=pure (ps.zip us)):jG K fd ps []:=fun s us _ hl=>by
 rw [kU] at hl ⊢
 exact .of_eq (h us hl)
def Zy (CX:CXT) (X:Cx) (E:XK):Prop:=∀(pins:List (Addr × Obj)) (σ:St) (H:Hp) (s:Shared) (e:Value) (s':Shared),Inv X pins σ H s→CX X.stack H s E e s'→X.xe e s'
section
variable {X:Cx} {CX:CXT} {k:Nat} {f C:Addr} {fd:FuncData} {ps:List Str} {sp:Sp} {dvs:List V} {ds:List Value} {E:XK} {x m:Str} {p pos apos:Pos} {e o:Expr} {es:List Expr} {ta:TE} {t:TA}
theorem z0L {pins:List (Addr × Obj)} {σ:St} {H:Hp} {s:Shared} {Q:VK} {us:List Value} {vs:List V} (F:FnOk X.prog X.w X.K X.mg X.base CX k f fd ps sp) (hr:Room k X.A) (hb:jG X.K fd ps ds) (hd:Vals dvs ds) (hx:Zy CX X E)
  (I:Inv X pins σ H s) (r:Vals vs us) (h:sp (vs++dvs) H Q E):wpAny (model X.prog X.w) X.A (call (.ref f) us) (EP X pins σ Q) X.xe s:=by
 have r2:Vals (vs++dvs) (us++ds):=r.append hd
 have hl:(us++ds).length=ps.length:=by rw [←r2.length];exact F.len _ _ _ _ h
 refine wpAny_call (codeAny_mono (F.run X.A X.stack s H ⟨us,[]⟩ (us++ds) (vs++dvs) Q E hr I.env0 (hb s us I.kIn hl) r2 h) fun r s' hq=>?_)
 cases r with
 | error e=>exact hx pins σ H s e s' I hq
 | ok fl=>
  cases fl with
  | ret u=>exact I.after hq
  | next=>exact False.elim hq
  | brk=>exact False.elim hq
  | cont=>exact False.elim hq
theorem z2q (F:FnOk X.prog X.w X.K X.mg X.base CX k f fd ps sp) (hr:Room k X.A) (hg:Gl X x) (hm:X.mg x=some (.ref f)) (hk:PySem.W.keepIn X.K (.ref f)=true) (hb:jG X.K fd ps ds) (hd:Vals dvs ds) (hx:Zy CX X E)
  (ha:PA X (e :: es) t) (hdb:autoParam ((x == ("__debug__":Str))=false) aR._auto_2) (he:autoParam (starEach (e :: es) X.env=(false,eval e X.env) :: starEach es X.env) aR._auto_1) (hpl:autoParam ((backTo pos (starEach es X.env)).any (·.1)=false) aR._auto_1):
  PE X (.Call (.Name x p) (e :: es) [] pos) (z5c sp dvs E t):=by
 intro pins s σ H Q I h
 refine wpAny_Call_Name_kw (jm I hg hm ?_ hdb)
 refine PySem.W.callWith_K (h₀:=X.base) I.ok.mod.kin hk (thn (ha pos pins s σ H _ I h) fun us s1 ⟨vs,H1,I1,r,q⟩=>⟨I1.kIn,?_⟩) he hpl
 exact z0L F hr hb hd hx I1 r q
theorem z5s {pl:Sem Bool} (he:PE X o ta) (c:Cls X.K C) (hm:Meth X.K C m f) (F:FnOk X.prog X.w X.K X.mg X.base CX k f fd ps sp) (hr:Room k X.A) (hb:jG X.K fd ps ds) (hd:Vals dvs ds) (hx:Zy CX X E) (ha:PA X (e :: es) t)
  (hst:autoParam (starEach (e :: es) X.env=(false,eval e X.env) :: starEach es X.env) aR._auto_1) (hpl:autoParam ((backTo pos (starEach es X.env)).any (·.1)=false) aR._auto_1)
  (ht:autoParam (eval (.Call (.Attribute o m apos) (e :: es) [] pos) X.env=(do
   let ov ←eval o X.env
   standAt apos.atName
   let (f,first) ←holding [ov] (getMethod ov m pl)
   callWith pos f first (backTo pos (starEach (e :: es) X.env)) (backToKw pos (keywordEach [] X.env)))) aR._auto_1):
  PE X (.Call (.Attribute o m apos) (e :: es) [] pos) (z1a C m sp dvs E ta t):=by
 intro pins s σ H Q I h
 refine PySem.W.methodCall_KW (pl:=pl) (thn (he pins s σ H _ I h) fun u s1 ⟨x,H1,I1,rx,a,dx,fs,ex,ea,l,q⟩=>?_) ht
 subst ex
 obtain rfl:u=Value.ref a:=rx
 refine Qx I1 ea c hm l ?_
 refine PySem.W.callWith_K (first:=[.ref a]) (h₀:=X.base) I.ok.mod.kin hm.kp (thn (ha pos pins s1 σ H1 _ I1 q) fun us s2 ⟨vs,H2,I2,r,q2⟩=>⟨I2.kIn,?_⟩) hst hpl
 exact z0L (us:=.ref a :: us) (vs:=.ref a :: vs) F hr hb hd hx I2 (.cons rfl r) q2
theorem z3Q {pl:Sem Bool} (he:PE X o ta) (c:Cls X.K C) (hm:Meth X.K C m f) (F:FnOk X.prog X.w X.K X.mg X.base CX k f fd ps sp) (hr:Room k X.A) (hb:jG X.K fd ps ds) (hd:Vals dvs ds) (hx:Zy CX X E)
  (ht:autoParam (eval (.Call (.Attribute o m apos) [] [] pos) X.env=(do
   let ov ←eval o X.env
   standAt apos.atName
   let (f,first) ←holding [ov] (getMethod ov m pl)
   callWith pos f first (backTo pos (starEach [] X.env)) (backToKw pos (keywordEach [] X.env)))) aR._auto_1):
  PE X (.Call (.Attribute o m apos) [] [] pos) (z1a C m sp dvs E ta tNil):=by
 intro pins s σ H Q I h
 refine PySem.W.methodCall_KW (pl:=pl) (thn (he pins s σ H _ I h) fun u s1 ⟨x,H1,I1,rx,a,dx,fs,ex,ea,l,q⟩=>?_) ht
 subst ex
 obtain rfl:u=Value.ref a:=rx
 refine Qx I1 ea c hm l ?_
 exact PySem.W.callWith_K0 (first:=[.ref a]) I1.kIn hm.kp (z0L (us:=[.ref a]) (vs:=[.ref a]) F hr hb hd hx I1 (.cons rfl .nil) q)
structure Mk (K:ky) (C f:Addr):Prop where
 makes:PySem.W.makesIn K C=true
 init:PySem.W.findIn K (.ref C) "__init__"=some (some (.ref f))
 fn:PySem.W.isFn K (.ref f)=true
 kp:PySem.W.keepIn K (.ref C)=true
theorem z3H {pins:List (Addr × Obj)} {σ:St} {H:Hp} {s:Shared} {Q:VK} {us:List Value} {vs:List V} (M:Mk X.K C f) (F:FnOk X.prog X.w X.K X.mg X.base CX k f fd ps sp) (hr:Room (k+1) X.A) (hb:jG X.K fd ps ds) (hd:Vals dvs ds)
  (hx:Zy CX X E) (I:Inv X pins σ H s) (r:Vals vs us)
  (h:∀x dx,H x=none→H dx=none→dx≠x→sp (.ref x :: (vs++dvs)) (upd (upd H dx (.own x)) x (.ins C dx [])) (fun v H2=>v=.non∧Q (.ref x) H2) E):
  wpAny (model X.prog X.w) X.A (call (.ref C) us) (EP X pins σ Q) X.xe s:=by
 have hq:=h (s.heap.objs.size+1) s.heap.objs.size (I.hok.fresh (Nat.le_succ _)) (I.hok.fresh (ke _)) (Nat.ne_of_lt (ya _))
 have I2:=Inv.made (C:=C) I
 have r2:Vals (V.ref (s.heap.objs.size+1) :: (vs++dvs)) (Value.ref (s.heap.objs.size+1) :: (us++ds)):=.cons rfl (r.append hd)
 have hl:(Value.ref (s.heap.objs.size+1) :: us++ds).length=ps.length:=by
  have e:=r2.length
  rw [F.len _ _ _ _ hq] at e
  exact e.symm
 refine wpAny_call (z42 (f:=f) I.kIn M.makes M.init (beq_iff_eq.mp M.fn) (codeAny_mono (F.run _ X.stack _ _ ⟨Value.ref (s.heap.objs.size+1) :: us,[]⟩ (Value.ref (s.heap.objs.size+1) :: (us++ds)) _ _ E (hr.make C us [])
  (I2.env0.make C us []) (hb _ (Value.ref (s.heap.objs.size+1) :: us) I2.kIn hl) r2 hq) fun r s' hq'=>?_))
 cases r with
 | error e=>exact hx pins σ _ _ e s' I2 hq'
 | ok fl=>
  cases fl with
  | ret u=>
   obtain ⟨v,H',I3,rv,ev,q3⟩:=I2.after hq'
   subst ev
   exact ⟨rv,⟨V.ref (s.heap.objs.size+1),H',I3,rfl,q3⟩⟩
  | next=>exact False.elim hq'
  | brk=>exact False.elim hq'
  | cont=>exact False.elim hq'
theorem z2o (M:Mk X.K C f) (F:FnOk X.prog X.w X.K X.mg X.base CX k f fd ps sp) (hr:Room (k+1) X.A) (hg:Gl X x) (hm:X.mg x=some (.ref C)) (hb:jG X.K fd ps ds) (hd:Vals dvs ds) (hx:Zy CX X E)
  (ha:PA X (e :: es) t) (hdb:autoParam ((x == ("__debug__":Str))=false) aR._auto_2) (he:autoParam (starEach (e :: es) X.env=(false,eval e X.env) :: starEach es X.env) aR._auto_1) (hpl:autoParam ((backTo pos (starEach es X.env)).any (·.1)=false) aR._auto_1):
  PE X (.Call (.Name x p) (e :: es) [] pos) (z59 C sp dvs E t):=by
 intro pins s σ H Q I h
 refine wpAny_Call_Name_kw (jm I hg hm ?_ hdb)
 refine PySem.W.callWith_K (h₀:=X.base) I.ok.mod.kin M.kp (thn (ha pos pins s σ H _ I h) fun us s1 ⟨vs,H1,I1,r,q⟩=>⟨I1.kIn,?_⟩) he hpl
 exact z3H M F hr hb hd hx I1 r q
end
section
variable {X:Cx} {CX:CXT} {k:Nat} {f C:Addr} {fd:FuncData} {ps ks:List Str} {sp:Sp} {E:XK} {x m:Str} {p pos apos kpos:Pos} {e o:Expr} {es:List Expr} {kws:List Keyword} {te ta:TE} {t tk:TA} {nm:Option Str}
variable {g:List Value→List Value→List Value} {gV:List V→List V→List V}
end
structure zj (N P:List Str) (sc:Scope):Prop where
 kind:sc.kind=.function
 co:sc.isCoroutine=false
 gen:sc.isGenerator=false
 nd:N.Nodup
 pre:N.take P.length=P
 par:∀x∈P,sc.names.lookup x=some .local∨sc.names.lookup x=some .cell
 nofree:∀y∈sc.names,y.2≠.free
theorem JY {kindOf:Str→Option NameKind} {x:Str}:∀{binds:List (Str × Value)} {m:Str→Option Value},(∀v,(x,v)∉binds)→bindL kindOf binds m x=m x
 | [],_,_=>rfl
 | (n,v) :: r,m,h=>by
  unfold bindL
  rw [JY fun w hw=>h w (kQ _ hw)]
  split
  ·have:x≠n:=by rintro rfl;exact h v kP
   simp [this]
  ·rfl
theorem z00 {kindOf:Str→Option NameKind} {x:Str}:∀{binds:List (Str × Value)} {m:Str→Option Value},(∀v,(x,v)∉binds)→bindC kindOf binds m x=m x
 | [],_,_=>rfl
 | (n,v) :: r,m,h=>by
  unfold bindC
  rw [z00 fun w hw=>h w (kQ _ hw)]
  split
  ·rfl
  ·have:x≠n:=by rintro rfl;exact h v kP
   simp [this]
theorem JZ {kindOf:Str→Option NameKind} {x:Str} {v:Value}:∀{P:List Str} {vs:List Value} {i:Nat} {m:Str→Option Value},P.Nodup→P[i]?=some x→vs[i]?=some v→kindOf x=some .local→
  bindL kindOf (P.zip vs) m x=some v
 | [],_,_,_,_,h,_,_=>by simp at h
 | _ :: _,[],_,_,_,_,h,_=>by simp at h
 | p :: P,w :: vs,0,m,nd,h1,h2,hk=>by
  simp at h1 h2;subst h1;subst h2
  show bindL kindOf ((p,w) :: P.zip vs) m p=_
  unfold bindL
  rw [JY fun v hv=>(List.nodup_cons.mp nd).1 (List.of_mem_zip hv).1,kA hk]
  simp
 | p :: P,w :: vs,i+1,m,nd,h1,h2,hk=>by
  show bindL kindOf ((p,w) :: P.zip vs) m x=_
  unfold bindL
  exact JZ (i:=i) (List.nodup_cons.mp nd).2 (by simpa using h1) (by simpa using h2) hk
theorem z01 {kindOf:Str→Option NameKind} {x:Str} {v:Value}:∀{P:List Str} {vs:List Value} {i:Nat} {m:Str→Option Value},P.Nodup→P[i]?=some x→vs[i]?=some v→kindOf x≠some .local→
  bindC kindOf (P.zip vs) m x=some v
 | [],_,_,_,_,h,_,_=>by simp at h
 | _ :: _,[],_,_,_,_,h,_=>by simp at h
 | p :: P,w :: vs,0,m,nd,h1,h2,hk=>by
  simp at h1 h2;subst h1;subst h2
  show bindC kindOf ((p,w) :: P.zip vs) m p=_
  unfold bindC
  rw [z00 fun v hv=>(List.nodup_cons.mp nd).1 (List.of_mem_zip hv).1,kz hk]
  simp
 | p :: P,w :: vs,i+1,m,nd,h1,h2,hk=>by
  show bindC kindOf ((p,w) :: P.zip vs) m x=_
  unfold bindC
  exact z01 (i:=i) (List.nodup_cons.mp nd).2 (by simpa using h1) (by simpa using h2) hk
noncomputable def qT (N:List Str) (vs:List V):St:=vs.map some++List.replicate (N.length - vs.length) none
noncomputable def cxOf (CX:CXT) (P:Program) (w:World) (K:ky) (mg:Str→Option Value) (base:Heap) (N:List Str) (qual:Str) (scope:Scope) (f:Addr) (cd:Value) (A:Around) (outer:List Env) (s:Shared) (H:Hp) (E:XK):Cx where
 prog:=P
 w:=w
 K:=K
 mg:=mg
 base:=base
 A:=A.deeper (envOfC qual scope s.heap.objs.size f cd)
 N:=N
 s₀:=s
 H₀:=H
 env:=envOfC qual scope s.heap.objs.size f cd
 outer:=outer
 stack:=envOfC qual scope s.heap.objs.size f cd :: outer
 ex:=[]
 calm:=true
 fn:=fun _=>true
 pn:=[]
 xe:=fun e s'=>wpAny (model P w) (A.deeper (envOfC qual scope s.heap.objs.size f cd)) (leaving (envOfC qual scope s.heap.objs.size f cd) e) (fun _ s''=>CX outer H s E e s'') (fun e' s''=>CX outer H s E e' s'') s'
theorem z12 {sc:Scope} {n:Nat} {x:Str} (h:sc.names.lookup x=some .cell):∃c,(cellsFrom n sc.names []).lookup x=some c:=by
 have q:=PySem.W.cellsFrom_some sc.names n [] (.inl h)
 exact Option.isSome_iff_exists.mp q
theorem z2L {CX:CXT} {P:Program} {w:World} {K:ky} {mg:Str→Option Value} {base:Heap} {N ps:List Str} {qual:Str} {scope:Scope} {f:Addr} {cd:Value} {A:Around} {outer:List Env} {s s1:Shared} {H:Hp} {E:XK} {us:List Value} {vs:List V}
  (S:zj N ps scope) (hd:A.handled=none) (e0:Env0 P w K mg base A outer s H) (hl:vs.length=ps.length) (r:Vals vs us)
  (x:InCallC s s.heap.objs.size (bindL (envOfC qual scope s.heap.objs.size f cd).kindOf (ps.zip us) fun _=>none) (cellsFrom (s.heap.objs.size+1) scope.names []) (bindC (envOfC qual scope s.heap.objs.size f cd).kindOf (ps.zip us) fun _=>none) s1):
  Inv (cxOf CX P w K mg base N qual scope f cd A outer s H E) [] (qT N vs) H s1:=by
 have hpl:ps.length≤N.length:=by have:=congrArg List.length S.pre;rw [List.length_take] at this;lia
 obtain ⟨h1,tk,rfl,hk⟩:=x.done
 have noA:∀b:Addr,b∉(cxOf CX P w K mg base N qual scope f cd A outer s H E).ex:=fun b z=>absurd (show b∈([]:List Addr) from z) (by simp)
 refine ⟨⟨e0.mod,S.kind,rfl,rfl,ke _,fun y z c h1 h2=>?_,fun y hy=>?_,fun y c _ h=>?_,fun _=>hd,Around.frames_deeper e0.frames,.inr ⟨rfl,rfl⟩,fun b z=>absurd z (noA b),e0.bs,e0.bsz,fun b _ _=>noA b,fun b z=>absurd z (noA b),e0.funs,e0.frf⟩,
  rfl,e0.bare,Un.kept hk,⟨_,x.toInCall.ns,fun i y v h1 h2 h3=>?_⟩,fun y c h=>⟨_,x.cell y c h⟩,e0.hok.fresh (ke _),fun y c h=>?_,fun p hp=>absurd (show p∈([]:List (Addr × Obj)) from hp) (by simp),e0.hok.kept hk,?_⟩
 ·exact name_of_addr x.apart (PySem.mem_of_lookup h1) (PySem.mem_of_lookup h2)
 ·have hy:scope.names.lookup y=some .cell∨scope.names.lookup y=some .free:=hy
  rcases hy with hy | hy
  ·exact z12 hy
  ·exact absurd rfl (S.nofree _ (PySem.mem_of_lookup hy))
 ·exact Nat.le_of_lt (x.above y c (PySem.mem_of_lookup h))
 ·have hi:i < vs.length:=by
   unfold qT at h2
   by_cases hi:i < vs.length
   ·exact hi
   ·rw [yg (by simpa using hi)] at h2
    rw [List.getElem?_replicate] at h2
    split at h2 <;> cases h2
  have ha:vs[i]?=some v:=by
   unfold qT at h2
   rw [yf (by simpa using hi),List.getElem?_map] at h2
   cases e:vs[i]? with
   | none=>rw [e] at h2;cases h2
   | some a=>rw [e] at h2;cases h2;rfl
  obtain ⟨u,hu,rv⟩:=r.get ha
  have hp:ps[i]?=some y:=by
   rw [←S.pre,List.getElem?_take_of_lt (by lia)];exact h1
  have ndP:ps.Nodup:=by rw [←S.pre];exact S.nd.sublist (List.take_sublist _ _)
  refine ⟨u,rv,?_⟩
  rcases S.par y (kG hp) with k | k
  ·exact .inl ⟨k,JZ ndP hp hu k⟩
  ·obtain ⟨c,e⟩:=z12 (n:=s.heap.objs.size+1) k
   refine .inr ⟨.inl k,c,e,?_⟩
   have q:=x.cell y c e
   rw [z01 ndP hp hu (by show scope.names.lookup y≠_;rw [k];decide)] at q
   exact q
 ·exact e0.hok.fresh (Nat.le_of_lt (x.above y c (PySem.mem_of_lookup h)))
 ·unfold qT
  show _=N.length
  rw [kl,kj,List.length_replicate]
  lia
theorem z5Y {CX:CXT} {P:Program} {w:World} {K:ky} {mg:Str→Option Value} {base:Heap} {k:Nat} {f:Addr} {name qual:Str} {params:Arguments} {body:List Stmt} {scope:Scope} {dV kV doc pm cdv ct oc:Value} {an od:Option Addr}
  {osl:Array (Option Value)} {N ps:List Str} {sp:Sp} (lk:K.lookup f=some ⟨oc,od,.func (PySem.W.fnOf name qual params body scope dV kV doc pm an cdv ct),osl⟩) (hcd:PySem.W.codeIn K cdv qual=true) (S:zj N ps scope)
  (len:∀vs H Q E,sp vs H Q E→vs.length=ps.length)
  (hbody:∀(A:Around) (outer:List Env) (s:Shared) (H:Hp) (vs:List V) (Q:VK) (E:XK),Room k (A.deeper (envOfC qual scope s.heap.objs.size f cdv))→sp vs H Q E→
   ∃t,PSs (cxOf CX P w K mg base N qual scope f cdv A outer s H E) body t∧t { nx:=fun _ H'=>Q .non H',rt:=Q } (qT N vs) H):
  FnOk P w K mg base CX (k+1) f (PySem.W.fnOf name qual params body scope dV kV doc pm an cdv ct) ps sp:=by
 refine ⟨len,fun A outer s H args us vs Q E hr e0 hb r hsp=>?_⟩
 have hl:=len _ _ _ _ hsp
 have KX:K.In s.heap:=e0.mod.kin.keeps fun b o e=>(e0.bs b o e).1
 have lim:s.heap.NoLimit:=e0.mod.nolimit.keeps fun b o e=>(e0.bs b o e).1
 have hkind:∀y∈ps.zip us,scope.names.lookup y.1=some .local∨(scope.names.lookup y.1=some .cell∧((cellsFrom (s.heap.objs.size+1) scope.names []).lookup y.1).isSome=true):=fun ⟨n,v⟩ hy=>by
  rcases S.par n (List.of_mem_zip hy).1 with q | q
  ·exact .inl q
  ·exact .inr ⟨q,PySem.W.cellsFrom_some _ _ _ (.inl q)⟩
 refine codeAny_call_function hr.depth (KX _ _ lk) rfl S.co S.gen rfl (PySem.W.codeRec_of KX hcd) (hb _ _ _ _ ?_)
 refine wpAny_newFunctionEnv_cells S.kind hkind fun env he s1 x=>?_
 subst he
 refine ⟨lim.keeps x.toInCall.keep,codeAny_func ?_⟩
 obtain ⟨t,ht,hq⟩:=hbody A outer s H vs Q E (hr.deeper _) hsp
 have I:Inv (cxOf CX P w K mg base N qual scope f cdv A outer s H E) [] (qT N vs) H s1:=z2L S hr.hd e0 hl r x
 refine wpAny_mono (ht [] s1 (qT N vs) H _ I hq) (fun fl s' hs=>?_) fun e s' hs=>hs
 have fin:∀{σ':St} {H':Hp} {v:V} {u:Value},Inv (cxOf CX P w K mg base N qual scope f cdv A outer s H E) [] σ' H' s'→RelV v u→Q v H'→CE outer P w H s Q u s':=
  fun {σ' H' v u} J rv q=>⟨v,H',J.os,J.bare,J.base,J.hok,rv,q⟩
 cases fl with
 | ret u=>
  obtain ⟨v,σ',H',J,rv,q⟩:=hs
  exact fin J rv q
 | next=>
  obtain ⟨σ',H',J,q⟩:=hs
  exact fin (v:=V.non) (u:=Value.none) J rfl q
 | brk=>
  obtain ⟨_,_,_,q⟩:=hs
  exact False.elim q
 | cont=>
  obtain ⟨_,_,_,q⟩:=hs
  exact False.elim q
end L2
namespace L2
open PySem PySem.Spec PyProof.Rows
section
variable {X:Cx} {x:Str} {p pos:Pos} {e:Expr} {es:List Expr} {t:TA} {id T:String} {r:List V→Hp→VK→Prop}
def tCB (r:List V→Hp→VK→Prop) (t:TA):TE:=fun σ H Q=>t σ H fun vs H1=>r vs H1 Q
theorem zl (hc:jt X (.builtin id) r) (hg:Gl X x) (hm:X.mg x=none) (hv:bootBuiltins x=some (.builtin id)) (ha:PA X (e :: es) t) (hn:autoParam (x≠"__name__") aR._auto_2) (hdb:autoParam ((x == ("__debug__":Str))=false) aR._auto_2)
  (he:autoParam (starEach (e :: es) X.env=(false,eval e X.env) :: starEach es X.env) aR._auto_1) (hpl:autoParam ((backTo pos (starEach es X.env)).any (·.1)=false) aR._auto_1):PE X (.Call (.Name x p) (e :: es) [] pos) (tCB r t):=by
 intro pins s σ H Q I h
 refine wpAny_Call_Name_kw (Qt I hg hm hv ?_ hn hdb)
 exact PyProof.Rows.callWith_builtin1 (thn (ha pos pins s σ H _ I h) fun us s1 ⟨vs,H1,I1,r1,q1⟩=>hc pins s1 σ H1 vs us Q I1 r1 q1) he hpl
theorem jg (hc:jt X (.type T) r) (hg:Gl X x) (hm:X.mg x=none) (hv:bootBuiltins x=some (.type T)) (ha:PA X (e :: es) t) (hn:autoParam (x≠"__name__") aR._auto_2) (hdb:autoParam ((x == ("__debug__":Str))=false) aR._auto_2)
  (he:autoParam (starEach (e :: es) X.env=(false,eval e X.env) :: starEach es X.env) aR._auto_1) (hpl:autoParam ((backTo pos (starEach es X.env)).any (·.1)=false) aR._auto_1):PE X (.Call (.Name x p) (e :: es) [] pos) (tCB r t):=by
 intro pins s σ H Q I h
 refine wpAny_Call_Name_kw (Qt I hg hm hv ?_ hn hdb)
 exact PyProof.Rows.callWith_type1 (thn (ha pos pins s σ H _ I h) fun us s1 ⟨vs,H1,I1,r1,q1⟩=>hc pins s1 σ H1 vs us Q I1 r1 q1) he hpl
end
end L2
namespace HT
open PySem PyProof.Rows
section
open PySem.SeqAt
open PySem.AutoSeq1 (wpAny_loadPart')
open PySem.MeetsSeq PySem.MeetsSeq2 PySem.MeetsSeq3
end
section
variable {prog:Program} {w:World} {A:Around} {E:Value→Shared→Prop} {s:Shared}
theorem cat_tup {t b:Addr} {vs ws:List Value} {Q:Value→Shared→Prop} (ht:IsTup s.heap t vs.toArray) (hb:IsTup s.heap b ws.toArray) (hv:vs≠[])
  (h1:ws=[]→Q (.ref t) s) (h2:ws≠[]→Q (.ref s.heap.objs.size) { s with heap:=s.heap.push { cls:=.type "tuple",data:=.seq (vs++ws).toArray } })
  (hsz:vs.length+ws.length≤sizeLine):wpAny (model prog w) A (binaryOp .Add (.ref t) (.ref b)) Q E s:=by
 obtain ⟨⟨cls,dd,data,sl⟩,ho,hc,n,hd⟩:=id ht
 obtain ⟨⟨cls2,dd2,data2,sl2⟩,ho2,hc2,n2,hd2⟩:=id hb
 simp only at hc hd hc2 hd2
 subst hc hd hc2 hd2
 have e:vs.toArray++ws.toArray=(vs++ws).toArray:=by simp
 by_cases hw:ws=[]
 ·exact concat_meets ⟨_,ho,rfl⟩ ⟨_,ho2,rfl⟩ noFill_tuple_add seq_tuple_add PySem.F.slot_tuple_add PySem.F.entry_tuple_add (PySem.F.args_tuple_add_2 _ _)
   (tuple_addW1 t b vs.toArray ws.toArray n n2 dd dd2 sl sl2 (by simpa using hv) (by simp [hw])) ⟨ho,ho2,h1 hw⟩
 ·refine concat_meets ⟨_,ho,rfl⟩ ⟨_,ho2,rfl⟩ noFill_tuple_add seq_tuple_add PySem.F.slot_tuple_add PySem.F.entry_tuple_add (PySem.F.args_tuple_add_2 _ _)
   (tuple_addW2 t b vs.toArray ws.toArray n n2 dd dd2 sl sl2 (by simpa using hv) (by simpa using hw) (by rw [kE,kE];exact hsz)) ⟨ho,ho2,?_⟩
  rw [e]
  exact h2 hw
noncomputable def sIx (n d:Nat):Option Int→Nat
 | none=>d
 | some v=>if v < 0 then (v+(n:Int)).toNat else min v.toNat n
theorem z6U (n d:Nat) (hd:d≤n) (o:Option Int):sIx n d o≤n:=by
 cases o with
 | none=>exact hd
 | some v=>
  show (if v < 0 then (v+(n:Int)).toNat else min v.toNat n)≤n
  by_cases hv:v < 0
  ·rw [kA hv];lia
  ·rw [kz hv];exact Nat.min_le_right _ _
theorem z3n (v:Int) (n d:Nat):(if v < 0 then max (v+(n:Int)) 0 else min v (n:Int))=((sIx n d (some v):Nat):Int):=by
 show (if v < 0 then max (v+(n:Int)) 0 else min v (n:Int))=(((if v < 0 then (v+(n:Int)).toNat else min v.toNat n):Nat):Int)
 by_cases hv:v < 0
 ·simp only [kA hv];lia
 ·simp only [kz hv];lia
theorem z1G (lo hi:Option Int) (n:Nat):Builtin.Slice.sliceAdjust lo hi 1 (n:Int)=(((sIx n 0 lo:Nat):Int),((sIx n n hi:Nat):Int)):=by
 have h1:¬((1:Int) < 0):=by lia
 unfold Builtin.Slice.sliceAdjust
 simp only [h1,if_false]
 refine Prod.ext ?_ ?_
 ·cases lo with
  | none=>rfl
  | some v=>exact z3n v n 0
 ·cases hi with
  | none=>rfl
  | some v=>exact z3n v n n
theorem z1g (i j:Nat):Builtin.Slice.slicePlaces (i:Int) (j:Int) 1=j - i:=by
 unfold Builtin.Slice.slicePlaces
 have h1:(1:Int) > 0:=by lia
 simp only [h1,if_true,Int.ediv_one]
 split <;> lia
theorem Qm {v:Value} {o:Option Int} {Q:Option Int→Shared→Prop} (p:IsPart v o) (h:Q o s):wpAny (model prog w) A (Builtin.Slice.slicePartIndex v) Q E s:=by
 cases p with
 | none=>exact slicePart_none h
 | int i t=>exact slicePart_int h
theorem ZA {sl:Addr} {vl vu:Value} {lo hi:Option Int} {n:Nat} {Q:Int × Int × Nat→Shared→Prop} (hs:s.heap.IsSliceOf sl vl vu .none) (pl:IsPart vl lo) (pu:IsPart vu hi)
  (h:Q (((sIx n 0 lo:Nat):Int),1,sIx n n hi - sIx n 0 lo) s):wpAny (model prog w) A (Builtin.Slice.sliceApplied (.ref sl) (pure (n:Int))) Q E s:=by
 obtain ⟨os,hos,hcs,hds⟩:=id hs
 unfold Builtin.Slice.sliceApplied Builtin.Slice.sliceFields
 refine wpAny_bind (wpAny_bind (wpAny_field hos hds (x:=vl) rfl (wpAny_bind (wpAny_field hos hds (x:=vu) rfl (wpAny_bind (wpAny_field hos hds (x:=.none) rfl (wpAny_pure ?_)))))))
 refine wpAny_bind (slicePart_none ?_)
 show wpAny _ _ (if ((1:Int) == 0)=true then _ else _) _ _ s
 rw [kz (by decide)]
 refine wpAny_bind (Qm pl (wpAny_bind (Qm pu (wpAny_bind (wpAny_pure ?_)))))
 show wpAny _ _ (match Builtin.Slice.sliceAdjust lo hi 1 (n:Int) with | (lo,hi)=>pure (lo,(1:Int),Builtin.Slice.slicePlaces lo hi 1)) _ _ s
 rw [z1G lo hi n]
 show wpAny _ _ (pure (((sIx n 0 lo:Nat):Int),(1:Int),Builtin.Slice.slicePlaces ((sIx n 0 lo:Nat):Int) ((sIx n n hi:Nat):Int) 1)) _ _ s
 rw [z1g]
 exact wpAny_pure h
theorem z3M (xs:Array Value) (i k:Nat):((List.range k).filterMap fun (m:Nat)=>xs[((i:Int)+(m:Int) * 1).toNat]?).toArray=((xs.toList.drop i).take k).toArray:=by
 have e:(fun (m:Nat)=>xs[((i:Int)+(m:Int) * 1).toNat]?)=fun m=>xs[i+m]?:=by
  funext m
  have:((i:Int)+(m:Int) * 1).toNat=i+m:=by lia
  rw [this]
 rw [e]
 have:=pick_run xs i k
 rw [List.filterMap_map] at this
 have e2:((fun x=>xs[x]?) ∘ fun x=>i+x)=fun m=>xs[i+m]?:=rfl
 rw [e2] at this
 rw [this]
theorem getItem_tuple_cut {t sl:Addr} {items:Array Value} {vl vu:Value} {lo hi:Option Int} {Q:Value→Shared→Prop} (ht:IsTup s.heap t items) (hs:s.heap.IsSliceOf sl vl vu .none) (pl:IsPart vl lo) (pu:IsPart vu hi)
  (hw:¬(sIx items.size 0 lo=0∧sIx items.size items.size hi=items.size))
  (h:Q (.ref s.heap.objs.size) { s with heap:=s.heap.push { cls:=.type "tuple",data:=.seq ((items.toList.drop (sIx items.size 0 lo)).take (sIx items.size items.size hi - sIx items.size 0 lo)).toArray } })
  (hsz:items.size≤sizeLine):wpAny (model prog w) A (getItem (.ref t) (.ref sl)) Q E s:=by
 have htake:sizeOk (.seq ((items.toList.drop (sIx items.size 0 lo)).take (sIx items.size items.size hi - sIx items.size 0 lo)).toArray):=by
  show ((items.toList.drop (sIx items.size 0 lo)).take (sIx items.size items.size hi - sIx items.size 0 lo)).toArray.size≤sizeLine
  rw [kE,List.length_take,List.length_drop,Array.length_toList]
  lia
 have hj:sIx items.size items.size hi≤items.size:=z6U _ _ (ke _) hi
 obtain ⟨os,hos,hcs,hds⟩:=id hs
 have hTs:s.TypeIs (.ref sl) "slice":=⟨os,hos,hcs⟩
 unfold getItem
 try with_reducible refine wpAny_holding ?_
 first | refine wpAny_bind (wpAny_pure ?_) | skip
 refine wpAny_bind (wpAny_sequenceKey ht.typeIs (by decide) ?_)
 refine wpAny_bind (wpAny_callSpecial?_slot (name:=Str.ofString "__getitem__") ht.typeIs PyProof.Rows.slot_tuple_getitem
  (wpAny_call_entry PyProof.Rows.slot_tuple_getitem ht.typeIs entry_tuple_getitem ?_ (args_tuple_getitem _ _)))
 show wpAny _ _ (Builtin.Tuple.tupleItemsOf (.ref t) >>= _) _ _ s
 refine wpAny_bind (tupleItemsOf_ ht ?_)
 refine wpAny_bind (wpAny_typeOf hTs ?_)
 rw [kA (by decide)]
 refine wpAny_bind (ZA hs pl pu ?_)
 have hno:¬((((sIx items.size 0 lo:Nat):Int) == 0&&(1:Int) == 1&&(sIx items.size items.size hi - sIx items.size 0 lo) == items.size)=true):=by
  intro q
  rw [yc,yc] at q
  have q1:((sIx items.size 0 lo:Nat):Int)=0:=eq_of_beq q.1.1
  have q2:sIx items.size items.size hi - sIx items.size 0 lo=items.size:=eq_of_beq q.2
  exact hw ⟨by lia,by lia⟩
 show wpAny _ _ (if (((sIx items.size 0 lo:Nat):Int) == 0&&(1:Int) == 1&&(sIx items.size items.size hi - sIx items.size 0 lo) == items.size)=true then _ else _) _ _ s
 rw [kz hno,z3M]
 first
  | exact wpAny_bind (m:=Builtin.Tuple.tupleExact _) (wpAny_newObj_type (wpAny_pure ⟨_,rfl,wpAny_pure h⟩) htake)
  | exact wpAny_bind (m:=Builtin.Tuple.tupleExact _) (wpAny_newObj_type (wpAny_bind (wpAny_pure (wpAny_pure ⟨_,rfl,wpAny_pure h⟩))) htake)
  | exact wpAny_bind (wpAny_bind (m:=Builtin.Tuple.tupleExact _) (wpAny_newObj_type (wpAny_pure (wpAny_pure ⟨_,rfl,wpAny_pure h⟩)) htake))
  | exact wpAny_bind (wpAny_bind (m:=Builtin.Tuple.tupleExact _) (wpAny_newObj_type (wpAny_pure ⟨_,rfl,wpAny_pure h⟩) htake))
end
end HT
namespace L2
open PySem PySem.Spec PyProof.Rows
abbrev TO:=St→Hp→(Option Int→Hp→Prop)→Prop
def PO (X:Cx) (e:Option Expr) (t:TO):Prop:=
 ∀(pins:List (Addr × Obj)) (s:Shared) (σ:St) (H:Hp) (Q:Option Int→Hp→Prop),Inv X pins σ H s→t σ H Q→
  wpAny (model X.prog X.w) X.A (evalPart e X.env) (fun u s'=>∃o H',Inv X pins σ H' s'∧IsPart u o∧Q o H') X.xe s
def z58:TO:=fun _ H Q=>Q none H
def z7R (t:TE):TO:=fun σ H Q=>t σ H fun x H1=>∃i,x=.int i∧Q (some i) H1
section
variable {X:Cx} {e:Expr} {te:TE} {lo hi:Option Expr} {tl th:TO} {pos p2:Pos}
theorem z2k:PO X none z58:=by
 intro pins s σ H Q I h
 rw [evalPart_none]
 exact wpAny_pure ⟨none,H,I,.none,h⟩
theorem z2j (h:PE X e te):PO X (some e) (z7R te):=by
 intro pins s σ H Q I hw
 rw [evalPart_some]
 refine thn (h pins s σ H _ I hw) fun u s1 zz=>?_
 obtain ⟨x,H1,I1,r1,q1⟩:=zz
 obtain ⟨i,rfl,q⟩:=q1
 obtain ⟨t,rfl⟩:=r1
 exact ⟨some i,H1,I1,.int i t,q⟩
def SlR (X:Cx) (r:V→Option Int→Option Int→Hp→VK→Prop):Prop:=
 ∀(pins:List (Addr × Obj)) (s:Shared) (σ:St) (H:Hp) (x:V) (v vl vu:Value) (lo hi:Option Int) (sl:Addr) (Q:VK),Inv X pins σ H s→RelV x v→s.heap.IsSliceOf sl vl vu .none→IsPart vl lo→IsPart vu hi→r x lo hi H Q→
  ∃T id,typeLookup (.type T) "__getitem__"=pure (some (.builtin id))∧s.TypeIs v T∧wpAny (model X.prog X.w) X.A (getItem v (.ref sl)) (EP X pins σ Q) X.xe s
def tSl (r:V→Option Int→Option Int→Hp→VK→Prop) (te:TE) (tl th:TO):TE:=fun σ H Q=>te σ H fun x H1=>tl σ H1 fun l H2=>th σ H2 fun u H3=>r x l u H3 Q
theorem z0N {r:V→Option Int→Option Int→Hp→VK→Prop} (hr:SlR X r) (he:PE X e te) (hl:PO X lo tl) (hu:PO X hi th):PE X (.Subscript e (.Slice lo hi none p2) pos) (tSl r te tl th):=by
 intro pins s σ H Q I h
 refine Subscript_ (thn (he pins s σ H _ I h) fun v s1 zz=>?_)
 obtain ⟨x,H1,I1,r1,q1⟩:=zz
 refine wpAny_Slice (thn (hl pins s1 σ H1 _ I1 q1) fun vl s2 ⟨l,H2,I2,pl,q2⟩=>thn (hu pins s2 σ H2 _ I2 q2) fun vu s3 zz=>?_)
 obtain ⟨u,H3,I3,pu,q3⟩:=zz
 rw [evalPart_none]
 refine wpAny_pure ?_
 have I4:Inv X pins σ H3 { s3 with heap:=s3.heap.push { cls:=.type "slice",data:=.fields #[vl,vu,.none] } }:=I3.kept (t':=s3.toks) fun b ob q=>Heap.get?_push_of_some _ q
 obtain ⟨T,id,hT,ht,hg⟩:=hr pins { s3 with heap:=s3.heap.push { cls:=.type "slice",data:=.fields #[vl,vu,.none] } } σ H3 x v vl vu l u s3.heap.objs.size Q I4 r1 (Heap.IsSliceOf.new ..) pl pu q3
 show wpAny (model X.prog X.w) X.A (subscriptTail e (.Slice lo hi none p2) v (.ref s3.heap.objs.size)) (EP X pins σ Q) X.xe { s3 with heap:=s3.heap.push { cls:=.type "slice",data:=.fields #[vl,vu,.none] } }
 exact tail_any (ops:=[.ref s3.heap.objs.size,v]) ht hT hg (by with_unfolding_all rfl)
noncomputable def cutV (xs:List V) (lo hi:Option Int):List V:=(xs.drop (HT.sIx xs.length 0 lo)).take (HT.sIx xs.length xs.length hi - HT.sIx xs.length 0 lo)
theorem jR (xs:List V) (lo hi:Option Int):(cutV xs lo hi).length≤xs.length:=by
 unfold cutV
 rw [List.length_take,List.length_drop]
 lia
def rSlT (K:ky):V→Option Int→Option Int→Hp→VK→Prop:=fun x lo hi H Q=>∃a xs,x=.ref a∧SqT K H a xs∧
 ¬(HT.sIx xs.length 0 lo=0∧HT.sIx xs.length xs.length hi=xs.length)∧∀p,H p=none→Q (.ref p) (upd H p (.tup (cutV xs lo hi)))
theorem z6P:SlR X (rSlT X.K):=by
 intro pins s σ H x v vl vu lo hi sl Q I rx hs pl pu h
 obtain ⟨a,xs,rfl,hx,hw,q⟩:=h
 cases rx
 obtain ⟨its,r,ht,hz⟩:=I.tuple hx
 have hlen:its.toArray.size=xs.length:=by rw [kE];exact r.length.symm
 refine ⟨"tuple",_,PyProof.Rows.slot_tuple_getitem.lookup,ht.typeIs,?_⟩
 refine HT.getItem_tuple_cut ht hs pl pu (by rw [hlen];exact hw) ?_ (by rw [hlen];exact hz)
 rw [hlen]
 refine ⟨.ref s.heap.objs.size,_,I.laid (t':=s.toks) (o:=.tup (cutV xs lo hi)) (fun b ob q=>Heap.get?_push_of_some _ q) (ke _) ?_,rfl,q _ (I.hok.fresh (ke _))⟩
 exact ⟨ku (jR xs lo hi) hz,_,(r.drop (HT.sIx xs.length 0 lo)).take (HT.sIx xs.length xs.length hi - HT.sIx xs.length 0 lo),IsTup.new _ _⟩
def z8c (K:ky):R2:=fun x y H Q=>∃a b xs ys,x=.ref a∧y=.ref b∧SqT K H a xs∧SqT K H b ys∧xs≠[]∧xs.length+ys.length≤sizeLine∧
 (ys=[]→Q (.ref a) H)∧(ys≠[]→∀p,H p=none→Q (.ref p) (upd H p (.tup (xs++ys))))
theorem Vals.nil_iff {xs:List V} {us:List Value} (r:Vals xs us):us=[]↔xs=[]:=by
 cases r with
 | nil=>simp
 | cons _ _=>simp
theorem z2u:OpR X (binaryOp .Add) (z8c X.K):=by
 intro pins s σ H x y v u Q I rx ry h
 obtain ⟨a,b,xs,ys,rfl,rfl,ha,hb,hx,hz,q1,q2⟩:=h
 cases rx
 cases ry
 obtain ⟨its,r1,p1,_⟩:=I.tuple ha
 obtain ⟨its2,r2,p2,_⟩:=I.tuple hb
 refine HT.cat_tup p1 p2 (fun z=>hx (r1.nil_iff.mp z)) (fun z=>⟨.ref a,H,I,rfl,q1 (r2.nil_iff.mp z)⟩) (fun z=>?_) (by rw [←r1.length,←r2.length];exact hz)
 refine ⟨.ref s.heap.objs.size,_,I.laid (t':=s.toks) (o:=.tup (xs++ys)) (fun b ob q=>Heap.get?_push_of_some _ q) (ke _) ?_,rfl,q2 (fun w=>z (r2.nil_iff.mpr w)) _ (I.hok.fresh (ke _))⟩
 exact ⟨by rw [kl];exact hz,_,r1.append r2,IsTup.new _ _⟩
end
end L2
namespace L2
open PySem PySem.Spec PyProof.Rows
noncomputable def ixN (n:Nat) (i:Int):Option Nat:=if 0≤i then (if i < n then some i.toNat else none) else if -(n:Int)≤i then some (i+n).toNat else none
noncomputable def atI {α:Type} (xs:List α) (i:Int):Option α:=(ixN xs.length i).bind fun j=>xs[j]?
theorem z2I {n:Nat} {i:Int} {j:Nat} (h:ixN n i=some j):seqIndex? i n=some j∧j < n∧-(n:Int)≤i∧i < n:=by
 unfold ixN at h
 by_cases h0:0≤i
 ·rw [kA h0] at h
  by_cases h1:i < n
  ·rw [kA h1] at h
   have e:i.toNat=j:=kB h
   exact ⟨by rw [seqIndex_of h0 h1,e],by lia,by lia,h1⟩
  ·rw [kz h1] at h;cases h
 ·rw [kz h0] at h
  by_cases h1: -(n:Int)≤i
  ·rw [kA h1] at h
   have e:(i+n).toNat=j:=kB h
   exact ⟨by rw [seqIndex_neg (by lia) h1,e],by lia,h1,by lia⟩
  ·rw [kz h1] at h;cases h
theorem z0x {α:Type} {xs:List α} {i:Int} {v:α} (h:atI xs i=some v):∃j,seqIndex? i xs.length=some j∧xs[j]?=some v∧j < xs.length∧-(xs.length:Int)≤i∧i < xs.length:=by
 unfold atI at h
 cases e:ixN xs.length i with
 | none=>rw [e] at h;cases h
 | some j=>
  rw [e] at h
  obtain ⟨h1,h2,h3,h4⟩:=z2I e
  exact ⟨j,h1,h,h2,h3,h4⟩
theorem zr {α:Type} {xs:List α} {j:Nat} {v:α} (h:xs[j]?=some v):atI xs (j:Int)=some v:=by
 have hj:j < xs.length:=(kf.mp h).1
 have e:ixN xs.length (j:Int)=some j:=by
  unfold ixN
  rw [kA (by lia),kA (by lia)];simp
 unfold atI;rw [e];exact h
theorem z16 {α:Type} (xs:List α) (v:α):atI (xs++[v]) (-1)=some v:=by
 have hl:(xs++[v]).length=xs.length+1:=by simp
 have e:ixN (xs++[v]).length (-1)=some xs.length:=by
  unfold ixN
  rw [hl,kz (by decide),kA (by lia)]
  congr 1
  lia
 unfold atI
 rw [e]
 show (xs++[v])[xs.length]?=some v
 simp
def z6s (b:Expr):Prop:=∀o i,subscripted b false o i=operate [o,i] (getItem o i)
def IxR (X:Cx) (r:R2):Prop:=
 ∀(value slice:Expr) (pins:List (Addr × Obj)) (s:Shared) (σ:St) (H:Hp) (x y:V) (v u:Value) (Q:VK),Inv X pins σ H s→RelV x v→RelV y u→r x y H Q→
  subscripted slice false v u=operate [v,u] (getItem v u)→wpAny (model X.prog X.w) X.A (subscriptTail value slice v u) (EP X pins σ Q) X.xe s
def MtR (X:Cx) (id:String) (r:V→List V→Hp→VK→Prop):Prop:=
 ∀(pins:List (Addr × Obj)) (s:Shared) (σ:St) (H:Hp) (x:V) (xs:List V) (v:Value) (us:List Value) (Q:VK),Inv X pins σ H s→RelV x v→Vals xs us→r x xs H Q→
  wpAny (model X.prog X.w) X.A (call (.builtin id) (v :: us)) (EP X pins σ Q) X.xe s
section
variable {X:Cx} {a b:Expr} {ta tb:TE} {pos:Pos}
theorem zS {r:R2} (hr:IxR X r) (ha:PE X a ta) (hb:PE X b tb) (hs:z6s b):PE X (.Subscript a b pos) (tOp r ta tb):=by
 intro pins s σ H Q I h
 exact Subscript_ (binT ha hb I h fun v u s2 x y H2 I2 rx ry q=>hr a b pins s2 σ H2 x y v u Q I2 rx ry q (hs _ _))
def rIxL (K:ky):R2:=fun x y H Q=>∃p xs i v,x=.ref p∧y=.int i∧SqL K H p xs∧atI xs i=some v∧Q v H
def rIxT (K:ky):R2:=fun x y H Q=>∃p xs i v,x=.ref p∧y=.int i∧SqT K H p xs∧atI xs i=some v∧Q v H
def rIxS:R2:=fun x y H Q=>∃z i c,x=.str z∧y=.int i∧z.length≤sizeLine∧atI z.cps.toList i=some c∧Q (.str ⟨#[c]⟩) H
theorem zN:IxR X (rIxL X.K):=by
 intro value slice pins s σ H x y v u Q I rx ry h hs
 obtain ⟨p,xs,i,z,rfl,rfl,hq,he,q⟩:=h
 cases rx
 obtain ⟨t,rfl⟩:=ry
 obtain ⟨its,r,pl,hz⟩:=I.list hq
 obtain ⟨j,h1,h2,h3,h4,h5⟩:=z0x he
 obtain ⟨w,ew,rw'⟩:=r.get h2
 have hl:=r.length
 have hn:=Zw
 have fin:EP X pins σ Q w s:=⟨z,H,I,rw',q⟩
 by_cases h0:0≤i
 ·have hj:i.toNat=j:=by
   rw [seqIndex_of h0 h5] at h1
   exact kB h1
  exact item_listR pl.isList h0 (by lia) (by rw [hj];simpa using ew) fin hs
 ·have hj:(i+(its.toArray.size:Int)).toNat=j:=by
   rw [seqIndex_neg (by lia) h4] at h1
   rw [kE,←hl]
   exact kB h1
  exact subscriptTail_builtinR (x:=w) pl.isList.typeIs slot_list_getitem.lookup
   (wpAny_getItem_list_neg (Q:=fun r s'=>r=w∧EP X pins σ Q r s') pl.isList (by lia) (by rw [kE] <;> lia) (by lia) (by rw [hj];simpa using ew) ⟨rfl,fin⟩) hs
theorem qp:IxR X (rIxT X.K):=by
 intro value slice pins s σ H x y v u Q I rx ry h hs
 obtain ⟨p,xs,i,z,rfl,rfl,hq,he,q⟩:=h
 cases rx
 obtain ⟨t,rfl⟩:=ry
 obtain ⟨its,r,pl,hz⟩:=I.tuple hq
 obtain ⟨j,h1,h2,h3,h4,h5⟩:=z0x he
 obtain ⟨w,ew,rw'⟩:=r.get h2
 have hl:=r.length
 have hn:=Zw
 have fin:EP X pins σ Q w s:=⟨z,H,I,rw',q⟩
 exact subscriptTail_builtinR (x:=w) pl.typeIs slot_tuple_getitem.lookup
  (getItem_tuple (j:=j) (Q:=fun r s'=>r=w∧EP X pins σ Q r s') pl (by lia) (by lia) (by rw [kE,←hl];exact h1) (by simpa using ew) ⟨rfl,fin⟩) hs
theorem z7o:IxR X rIxS:=by
 intro value slice pins s σ H x y v u Q I rx ry h hs
 obtain ⟨z,i,c,rfl,rfl,hz,he,q⟩:=h
 obtain ⟨t,rfl⟩:=rx
 obtain ⟨t',rfl⟩:=ry
 obtain ⟨j,h1,h2,h3,h4,h5⟩:=z0x he
 have hl:z.cps.toList.length=z.length:=by simp [Str.length]
 rw [hl] at h1 h4 h5
 have hn:=Zw
 exact tail_any (typeIs_str s z t) slot_str_getitem.lookup (getItem_str (c:=c) (by
  have e1:decide (i < -(2 ^ 63:Int))=false:=kh (by lia)
  have e2:decide (i≥2 ^ 63)=false:=kh (by lia)
  rw [e1,e2,Bool.or_false]) (by rw [h1];simpa using h2) ⟨.str ⟨#[c]⟩,H,I.tok _,⟨_,rfl⟩,q⟩) hs
theorem z1l (its:List Value) (n j:Nat) (u:Value):Obj.mapSeq (·.setIfInBounds j u) { cls:=.type "list",data:=.seq its.toArray n }={ cls:=.type "list",data:=.seq (its.set j u).toArray n }:=by
 simp [Obj.mapSeq]
theorem Inv.lst {pins:List (Addr × Obj)} {σ:St} {H:Hp} {s:Shared} {p:Addr} {xs:List V} (I:Inv X pins σ H s) (h:H p=some (.lst xs)):
  ∃(its:List Value) (n:Nat),Vals xs its∧s.heap.get? p=some { cls:=.type "list",data:=.seq its.toArray n }∧xs.length≤sizeLine:=by
 obtain ⟨z,its,n,r,e⟩:=I.hok p _ h
 exact ⟨its,n,r,e,z⟩
theorem Inv.lstUpd {pins:List (Addr × Obj)} {σ:St} {H:Hp} {s:Shared} {p:Addr} {xs ys:List V} {its its':List Value} {n n':Nat} {f:Obj→Obj} (I:Inv X pins σ H s) (h:H p=some (.lst xs))
  (ho:s.heap.get? p=some { cls:=.type "list",data:=.seq its.toArray n }) (hf:f { cls:=.type "list",data:=.seq its.toArray n }={ cls:=.type "list",data:=.seq its'.toArray n' }) (r:Vals ys its') (hz:ys.length≤sizeLine) (t:Nat):
  Inv X pins σ (upd H p (.lst ys)) { s with heap:=s.heap.update p f,toks:=t }:=by
 have e:(s.heap.update p f).get? p=some { cls:=.type "list",data:=.seq its'.toArray n' }:=by
  rw [Heap.get?_update_self f ho (by rw [hf] <;> rfl),hf]
 refine I.write (x:=p) (e:=p) (by rw [h];trivial) (.inl rfl) (fun b u hb q=>(Heap.get?_update_other _ _ (Ne.symm hb)).trans q) ⟨_,e⟩ ?_
 exact ⟨hz,its',n',r,e⟩
def z8a:V→V→V→Hp→(Hp→Prop)→Prop:=fun o i v H Q=>∃p xs k j,o=.ref p∧i=.int k∧H p=some (.lst xs)∧ixN xs.length k=some j∧Q (upd H p (.lst (xs.set j v)))
theorem jk:PSet X z8a:=by
 intro pins s σ H o i v ov iv u Q I ro ri rv h
 obtain ⟨p,xs,k,j,rfl,rfl,hp,hj,q⟩:=h
 cases ro
 obtain ⟨t,rfl⟩:=ri
 obtain ⟨its,n,r,ho,hz⟩:=I.lst hp
 obtain ⟨h1,h2,h3,h4⟩:=z2I hj
 have hl:=r.length
 have hn:=Zw
 have I':Inv X pins σ (upd H p (.lst (xs.set j v))) { s with heap:=s.heap.update p (Obj.mapSeq (·.setIfInBounds j u)) }:=
  I.lstUpd hp ho (z1l its n j u) (r.set rv j) (by rw [List.length_set];exact hz) s.toks
 by_cases h0:0≤k
 ·have hk:k.toNat=j:=by
   rw [seqIndex_of h0 h4] at h1
   exact kB h1
  exact PySem.W.ki_setAt ho h0 (by lia) (by rw [kE,←hl];exact h4) (by rw [hk];exact ⟨_,I',q⟩)
 ·have hk:(k+(its.toArray.size:Int)).toNat=j:=by
   rw [seqIndex_neg (by lia) h3] at h1
   rw [kE,←hl]
   exact kB h1
  exact PySem.W.ki_setBack ho (by lia) (by rw [kE,←hl];exact h3) (by lia) (by rw [hk];exact ⟨_,I',q⟩)
theorem Jg (lo hi:Option Int) (n:Nat):(sliceBounds lo hi none n).1=((HT.sIx n 0 lo:Nat):Int)∧(sliceBounds lo hi none n).2.1=((HT.sIx n n hi:Nat):Int)∧(sliceBounds lo hi none n).2.2=1:=by
 refine ⟨?_,?_,rfl⟩
 ·cases lo with
  | none=>simp [sliceBounds,HT.sIx]
  | some i=>
   simp only [sliceBounds,HT.sIx,Option.getD_none,show (1:Int) > 0 by decide,if_true]
   by_cases h:i < 0
   ·simp only [h,if_true] <;> lia
   ·simp only [h,if_false] <;> lia
 ·cases hi with
  | none=>simp [sliceBounds,HT.sIx]
  | some i=>
   simp only [sliceBounds,HT.sIx,Option.getD_none,show (1:Int) > 0 by decide,if_true]
   by_cases h:i < 0
   ·simp only [h,if_true] <;> lia
   ·simp only [h,if_false] <;> lia
theorem QG (its:List Value) (lo hi:Option Int):slicePick its.toArray lo hi none=((its.drop (HT.sIx its.length 0 lo)).take (HT.sIx its.length its.length hi - HT.sIx its.length 0 lo)).toArray:=by
 obtain ⟨h1,h2,h3⟩:=Jg lo hi its.toArray.size
 unfold slicePick
 rw [h1,h2,h3]
 simp only [sliceRange_one,pick_run,kE] <;> rfl
def rSlL (K:ky):V→Option Int→Option Int→Hp→VK→Prop:=fun x lo hi H Q=>∃a xs,x=.ref a∧SqL K H a xs∧∀p,H p=none→Q (.ref p) (upd H p (.lst (cutV xs lo hi)))
theorem z5k:SlR X (rSlL X.K):=by
 intro pins s σ H x v vl vu lo hi sl Q I rx hs pl pu h
 obtain ⟨a,xs,rfl,hx,q⟩:=h
 cases rx
 obtain ⟨its,r,ht,hz⟩:=I.list hx
 have hlen:=r.length
 refine ⟨"list",_,slot_list_getitem.lookup,ht.isList.typeIs,?_⟩
 refine wpAny_getItem_list_slice ht.isList hs pl pu .none (by simp) ?_ (by rw [kE] <;> lia)
 rw [QG,←hlen]
 refine ⟨.ref s.heap.objs.size,_,I.laid (t':=s.toks) (o:=.lst (cutV xs lo hi)) (fun b ob q=>Heap.get?_push_of_some _ q) (ke _) ?_,rfl,q _ (I.hok.fresh (ke _))⟩
 exact ⟨ku (jR xs lo hi) hz,_,0,(r.drop (HT.sIx xs.length 0 lo)).take (HT.sIx xs.length xs.length hi - HT.sIx xs.length 0 lo),Heap.get?_push_size _ rfl⟩
noncomputable def ZB:V→Bool
 | .non=>true
 | .bl _=>true
 | .int _=>true
 | .str _=>true
 | _=>false
noncomputable def eqV:V→V→Bool
 | .non,.non=>true
 | .bl a,.bl b=>a == b
 | .bl a,.int b=>(if a then 1 else 0) == b
 | .int a,.bl b=>a == (if b then 1 else 0)
 | .int a,.int b=>a == b
 | .str a,.str b=>a == b
 | _,_=>false
theorem z3a {A:Around} {s:Shared} {y x:V} {u v:Value} (ry:RelV y u) (rx:RelV x v) (fy:ZB y=true) (fx:ZB x=true):SeqAt.EqAt A s u v (eqV y x):=by
 cases y with
 | non=>
  cases ry
  cases x with
  | non=>cases rx;exact SeqAt.EqAt.same _
  | bl b=>cases rx;exact SeqAt.EqAt.none_bool b
  | int b=>obtain ⟨t,rfl⟩:=rx;exact SeqAt.EqAt.none_int b t
  | str b=>obtain ⟨t,rfl⟩:=rx;exact SeqAt.EqAt.none_str b t
  | _=>exact absurd (show false=true from fx) ka
 | bl a=>
  cases ry
  cases x with
  | non=>cases rx;exact SeqAt.EqAt.bool_none a
  | bl b=>cases rx;exact SeqAt.EqAt.bool_bool a b
  | int b=>obtain ⟨t,rfl⟩:=rx;exact SeqAt.EqAt.bool_int a b t
  | str b=>obtain ⟨t,rfl⟩:=rx;exact SeqAt.EqAt.bool_str a b t
  | _=>exact absurd (show false=true from fx) ka
 | int a=>
  obtain ⟨t',rfl⟩:=ry
  cases x with
  | non=>cases rx;exact SeqAt.EqAt.int_none a t'
  | bl b=>cases rx;exact SeqAt.EqAt.int_bool a t' b
  | int b=>obtain ⟨t,rfl⟩:=rx;exact SeqAt.EqAt.int_int a t' b t
  | str b=>obtain ⟨t,rfl⟩:=rx;exact SeqAt.EqAt.int_str a t' b t
  | _=>exact absurd (show false=true from fx) ka
 | str a=>
  obtain ⟨t',rfl⟩:=ry
  cases x with
  | non=>cases rx;exact SeqAt.EqAt.str_none a t'
  | bl b=>cases rx;exact SeqAt.EqAt.str_bool a t' b
  | int b=>obtain ⟨t,rfl⟩:=rx;exact SeqAt.EqAt.str_int a t' b t
  | str b=>obtain ⟨t,rfl⟩:=rx;exact SeqAt.EqAt.str_str a t' b t
  | _=>exact absurd (show false=true from fx) ka
 | _=>exact absurd (show false=true from fy) ka
noncomputable def eqU (x:V) (u:Value):Bool:=match u with
 | .none=>eqV .non x
 | .bool b=>eqV (.bl b) x
 | .int i _=>eqV (.int i) x
 | .str z _=>eqV (.str z) x
 | _=>false
theorem z54 {x y:V} {u:Value} (r:RelV y u) (f:ZB y=true):eqU x u=eqV y x:=by
 cases y with
 | non=>cases r;rfl
 | bl b=>cases r;rfl
 | int i=>obtain ⟨t,rfl⟩:=r;rfl
 | str z=>obtain ⟨t,rfl⟩:=r;rfl
 | _=>exact absurd (show false=true from f) ka
theorem Qe {x:V}:∀{xs:List V} {us:List Value},Vals xs us→xs.all ZB=true→us.any (eqU x)=xs.any fun y=>eqV y x
 | _,_,.nil,_=>rfl
 | y :: xs,u :: us,.cons r t,f=>by
  rw [List.all_cons,yc] at f
  rw [List.any_cons,List.any_cons,z54 r f.1,Qe t f.2]
theorem jY {A:Around} {s:Shared} {x:V} {v:Value} (rx:RelV x v) (fx:ZB x=true):∀{xs:List V} {us:List Value},Vals xs us→xs.all ZB=true→∀u∈us,SeqAt.EqAt A s u v (eqU x u)
 | _,_,.nil,_=>fun u hu=>by cases hu
 | y :: xs,u :: us,.cons r t,f=>fun u' hu=>by
  rw [List.all_cons,yc] at f
  rcases kD.mp hu with rfl | hu
  ·rw [z54 r f.1];exact z3a r rx f.1 fx
  ·exact jY rx fx t f.2 u' hu
noncomputable def inV (x:V) (xs:List V):Bool:=xs.any fun y=>eqV y x
def rIn (K:ky) (neg:Bool):R2:=fun x y H Q=>∃p xs,y=.ref p∧(SqL K H p xs∨SqT K H p xs)∧ZB x=true∧xs.all ZB=true∧Q (.bl (if neg then !inV x xs else inV x xs)) H
theorem qW:OpR X (compareOp .In) (rIn X.K false):=by
 intro pins s σ H x y v u Q I rx ry h
 obtain ⟨p,xs,rfl,hq,fx,fs,q⟩:=h
 cases ry
 rcases hq with hq | hq
 ·obtain ⟨its,r,pl,hz⟩:=I.list hq
  refine SeqAt.in_listAt (eqU x) pl.isList (fun w hw=>jY rx fx r fs w (by simpa using hw)) ⟨.bl _,H,I,rfl,?_⟩
  rw [show its.toArray.any (eqU x)=its.any (eqU x) by simp,Qe r fs]
  exact q
 ·obtain ⟨its,r,pl,hz⟩:=I.tuple hq
  refine SeqAt.in_tupleAt (eqU x) pl (fun w hw=>jY rx fx r fs w (by simpa using hw)) ⟨.bl _,H,I,rfl,?_⟩
  rw [show its.toArray.any (eqU x)=its.any (eqU x) by simp,Qe r fs]
  exact q
theorem Zv:OpR X (compareOp .NotIn) (rIn X.K true):=by
 intro pins s σ H x y v u Q I rx ry h
 obtain ⟨p,xs,rfl,hq,fx,fs,q⟩:=h
 cases ry
 rcases hq with hq | hq
 ·obtain ⟨its,r,pl,hz⟩:=I.list hq
  refine SeqAt.notIn_listAt (eqU x) pl.isList (fun w hw=>jY rx fx r fs w (by simpa using hw)) ⟨.bl _,H,I,rfl,?_⟩
  rw [show its.toArray.any (eqU x)=its.any (eqU x) by simp,Qe r fs]
  exact q
 ·obtain ⟨its,r,pl,hz⟩:=I.tuple hq
  refine SeqAt.notIn_tupleAt (eqU x) pl (fun w hw=>jY rx fx r fs w (by simpa using hw)) ⟨.bl _,H,I,rfl,?_⟩
  rw [show its.toArray.any (eqU x)=its.any (eqU x) by simp,Qe r fs]
  exact q
theorem Zu:OpR X (compareOp .NotIn) (fun x y H Q=>∃i j,x=.str i∧y=.str j∧Q (.bl (!(!(Builtin.Str.occurrences j i 0 j.length 1).isEmpty))) H):=by
 intro pins s σ H x y v u Q I rx ry h
 obtain ⟨i,j,rfl,rfl,q⟩:=h
 obtain ⟨t,rfl⟩:=rx
 obtain ⟨t',rfl⟩:=ry
 exact notIn_str ⟨.bl _,H,I,rfl,q⟩
theorem qb:jt X (.builtin "len") (fun xs H Q=>∃p ys,xs=[.ref p]∧(SqL X.K H p ys∨SqT X.K H p ys)∧Q (.int ys.length) H):=by
 intro pins s σ H xs us Q I r h
 obtain ⟨p,ys,rfl,hq,q⟩:=h
 obtain ⟨u,rfl,rx⟩:=ZO r
 cases rx
 have hn:=Zw
 rcases hq with hq | hq
 ·obtain ⟨its,r',pl,hz⟩:=I.list hq
  have hlen:=r'.length
  exact Calls.call_len_list pl.isList (by simp only [kE] <;> lia) ⟨.int ys.length,H,I.tok _,⟨s.toks+1,by rw [kE,hlen]⟩,q⟩
 ·obtain ⟨its,r',pl,hz⟩:=I.tuple hq
  have hlen:=r'.length
  exact len_tuple pl (by simp only [kE] <;> lia) ⟨.int ys.length,H,I.tok _,⟨s.toks+1,by rw [kE,hlen]⟩,q⟩
theorem jb:jt X (.builtin "len") (fun xs H Q=>∃z,xs=[.str z]∧z.length≤sizeLine∧Q (.int z.length) H):=by
 intro pins s σ H xs us Q I r h
 obtain ⟨z,rfl,hz,q⟩:=h
 obtain ⟨u,rfl,t,rfl⟩:=ZO r
 have hn:=Zw
 exact len_str (by lia) ⟨.int z.length,H,I.tok _,⟨_,rfl⟩,q⟩
theorem jE:jt X (.type "list") (fun xs H Q=>∃p ys,xs=[.ref p]∧(SqL X.K H p ys∨SqT X.K H p ys)∧∀l,H l=none→Q (.ref l) (upd H l (.lst ys))):=by
 intro pins s σ H xs us Q I r h
 obtain ⟨p,ys,rfl,hq,q⟩:=h
 obtain ⟨u,rfl,rx⟩:=ZO r
 cases rx
 have fin:∀(its:List Value),Vals ys its→ys.length≤sizeLine→∀(h':Heap) (c':Nat),(∀b o',s.heap.get? b=some o'→h'.get? b=some o')→
   h'.get? s.heap.objs.size=some { cls:=.type "list",dict:=none,data:=.seq its.toArray c',slots:=#[] }→EP X pins σ Q (.ref s.heap.objs.size) { s with heap:=h' }:=fun its r' hz h' c' kp e=>
  ⟨.ref s.heap.objs.size,_,I.laid (t':=s.toks) kp (ke _) (show zZ X.prog X.w _ h' _ (.lst ys) from ⟨hz,its,c',r',e⟩),rfl,q _ (I.hok.fresh (ke _))⟩
 rcases hq with hq | hq
 ·obtain ⟨its,r',pl,hz⟩:=I.list hq
  have hlen:=r'.length
  obtain ⟨o,ho,hc,n,hd⟩:=pl.isList
  exact call_list_seq p (.inl rfl) ho hc hd (fun h' c' kp e=>fin its r' hz h' c' kp e) (by simp only [kE] <;> lia)
 ·obtain ⟨its,r',pl,hz⟩:=I.tuple hq
  have hlen:=r'.length
  obtain ⟨o,ho,hc,n,hd⟩:=pl
  exact call_list_seq p (.inr rfl) ho hc hd (fun h' c' kp e=>fin its r' hz h' c' kp e) (by simp only [kE] <;> lia)
def tyV (K:ky) (T:String) (x:V) (H:Hp):Prop:=match x with
 | .str _=>T="str"
 | .int _=>T="int"
 | .ref p=>(T="list"∧∃xs,SqL K H p xs)∨(T="tuple"∧∃o,K.lookup p=some o∧o.cls=.type "tuple"∧o.dict=none)∨
   (T="dict"∧((∃kvs,H p=some (.dK kvs))∨∃kvs,H p=some (.dT kvs)))∨(T="set"∧∃S n,H p=some (.set S n))
 | _=>False
theorem z4H {pins:List (Addr × Obj)} {σ:St} {H:Hp} {s:Shared} {T:String} {x:V} {v:Value} (I:Inv X pins σ H s) (r:RelV x v) (ty:tyV X.K T x H):
  s.TypeIs v T∧∀a,v=.ref a→∃ob,s.heap.get? a=some ob∧ob.dict=none:=by
 cases x with
 | str z=>
  obtain ⟨t,rfl⟩:=r
  cases (show T="str" from ty)
  exact ⟨typeIs_str s z t,fun _ e=>nomatch e⟩
 | int i=>
  obtain ⟨t,rfl⟩:=r
  cases (show T="int" from ty)
  exact ⟨typeIs_int s i t,fun _ e=>nomatch e⟩
 | ref p=>
  cases r
  rcases ty with ⟨rfl,xs,hq⟩ | ⟨rfl,o,hk,hc,hd⟩ | ⟨rfl,hk⟩ | ⟨rfl,S,n,hk⟩
  ·obtain ⟨its,_,pl,_⟩:=I.list hq
   refine ⟨pl.isList.typeIs,fun a e=>?_⟩
   cases e
   obtain ⟨o,n,e,c,hd,_⟩:=pl
   exact ⟨o,e,hd⟩
  ·refine ⟨⟨o,I.kIn p o hk,hc⟩,fun a e=>?_⟩
   cases e
   exact ⟨o,I.kIn _ o hk,hd⟩
  ·have z:∃o,s.heap.get? p=some o∧o.ExactDict:=by
    rcases hk with ⟨kvs,hk⟩ | ⟨kvs,hk⟩
    ·obtain ⟨_,_,_,_,o,_,_,e,ex,_⟩:=I.hok p _ hk
     exact ⟨o,e,ex⟩
    ·obtain ⟨_,_,_,_,o,_,_,e,ex,_⟩:=I.hok p _ hk
     exact ⟨o,e,ex⟩
   obtain ⟨o,e,ex⟩:=z
   refine ⟨⟨o,e,ex.1⟩,fun a e2=>?_⟩
   cases e2
   exact ⟨o,e,ex.2.1⟩
  ·obtain ⟨o,_,_,_,e,ex,_⟩:=I.hok p _ hk
   refine ⟨⟨o,e,ex.1⟩,fun a e2=>?_⟩
   cases e2
   exact ⟨o,e,ex.2.1⟩
 | _=>exact False.elim ty
def tBM0 (K:ky) (T:String) (r:V→List V→Hp→VK→Prop) (to:TE):TE:=fun σ H Q=>to σ H fun x H1=>tyV K T x H1∧r x [] H1 Q
def tBM (K:ky) (T:String) (r:V→List V→Hp→VK→Prop) (to:TE) (t:TA):TE:=fun σ H Q=>to σ H fun x H1=>tyV K T x H1∧t σ H1 fun xs H2=>r x xs H2 Q
variable {o e:Expr} {es:List Expr} {to:TE} {t:TA} {name:Str} {apos cpos:Pos} {T id:String} {r:V→List V→Hp→VK→Prop}
theorem Qp (pa:PlainAttrs T) (slot:Slot T name id) (hty:typeOf (.builtin id)=pure (.type "method_descriptor")) (hm:MtR X id r) (ho:PE X o to)
  (hbase:autoParam (attributeBase o name X.env (eval o X.env)=eval o X.env) aR._auto_1) (hline:autoParam ((apos.endLine == cpos.line)=true) aR._auto_1):PE X (.Call (.Attribute o name apos) [] [] cpos) (tBM0 X.K T r to):=by
 intro pins s σ H Q I h
 refine wpAny_Call_method0_late hbase hline (thn (ho pins s σ H _ I h) fun v s1 zz=>?_)
 obtain ⟨x,H1,I1,r1,ty,q1⟩:=zz
 obtain ⟨h1,h2⟩:=z4H I1 r1 ty
 exact ⟨T,id,pa,slot,hty,h1,h2,Calls.callWith_builtin rfl (PySem.evalArgs_none (hm pins s1 σ H1 x [] v [] Q I1 r1 .nil q1))⟩
theorem z1h (pa:PlainAttrs T) (slot:Slot T name id) (hty:typeOf (.builtin id)=pure (.type "method_descriptor")) (hm:MtR X id r) (ho:PE X o to) (ha:PA X (e :: es) t)
  (hbase:autoParam (attributeBase o name X.env (eval o X.env)=eval o X.env) aR._auto_1)
  (hfew:autoParam (((backTo cpos (starEach (e :: es) X.env)).all (fun x=> !x.1)&&(backToKw cpos (keywordEach [] X.env)).all (fun x=>x.1.isSome)
   &&decide ((e :: es).length+([]:List Keyword).length+(if ([]:List Keyword).isEmpty then 0 else 1) < 30))=true) aR._auto_1)
  (hline:autoParam ((apos.endLine == cpos.line)=true) aR._auto_1) (hs:autoParam (starEach (e :: es) X.env=(false,eval e X.env) :: starEach es X.env) aR._auto_1) (hplain:autoParam ((backTo cpos (starEach es X.env)).any (·.1)=false) aR._auto_1):
  PE X (.Call (.Attribute o name apos) (e :: es) [] cpos) (tBM X.K T r to t):=by
 intro pins s σ H Q I h
 refine wpAny_Call_method_late hbase hfew hline rfl (thn (ho pins s σ H _ I h) fun v s1 zz=>?_)
 obtain ⟨x,H1,I1,r1,ty,q1⟩:=zz
 obtain ⟨h1,h2⟩:=z4H I1 r1 ty
 refine ⟨T,id,pa,slot,hty,h1,h2,?_⟩
 have hA:=ha cpos pins s1 σ H1 _ I1 q1
 rw [hs] at hA ⊢
 refine Calls.callWith_builtin (by show (false||(backTo cpos (starEach es X.env)).any (·.1))=false;rw [hplain] <;> rfl) (Calls.evalArgs_plain ?_)
 exact thn hA fun us s2 ⟨vs,H2,I2,r2,q2⟩=>hm pins s2 σ H2 x vs v us Q I2 r1 r2 q2
end
end L2
namespace L2
open PySem PySem.Spec PyProof.Rows
def MtM (X:Cx) (id:String) (r:V→List V→Hp→VK→Prop):Prop:=
 ∀(pins:List (Addr × Obj)) (s:Shared) (σ:St) (H:Hp) (x:V) (xs:List V) (v:Value) (us:List Value) (Q:VK),Inv X pins σ H s→RelV x v→Vals xs us→r x xs H Q→
  wpAny (model X.prog X.w) X.A (call (.builtin id) (v :: us)) (EP X pins σ Q) X.xe s
theorem Vals.one:∀{x:V} {us:List Value},Vals [x] us→∃u,us=[u]∧RelV x u
 | _,_,.cons r .nil=>⟨_,rfl,r⟩
theorem Vals.zero:∀{us:List Value},Vals [] us→us=[]
 | _,.nil=>rfl
theorem Vals.dropLast {xs:List V} {us:List Value} (h:Vals xs us):Vals xs.dropLast us.dropLast:=by
 induction h with
 | nil=>exact .nil
 | cons r t ih=>
  cases t with
  | nil=>exact .nil
  | cons q t'=>exact .cons r ih
theorem Vals.eraseIdx:∀{xs:List V} {us:List Value} (i:Nat),Vals xs us→Vals (xs.eraseIdx i) (us.eraseIdx i)
 | _,_,_,.nil=>.nil
 | _,_,0,.cons _ t=>t
 | _,_,i+1,.cons r t=>.cons r (Vals.eraseIdx i t)
theorem Vals.rep {xs:List V} {us:List Value} (h:Vals xs us):∀k:Nat,Vals (List.replicate k xs).flatten (List.replicate k us).flatten
 | 0=>.nil
 | k+1=>by
  rw [List.replicate_succ,List.replicate_succ,List.flatten_cons,List.flatten_cons]
  exact Vals.append h (Vals.rep h k)
theorem z1A {α:Type} (l:List α):l.eraseIdx (l.length - 1)=l.dropLast:=by
 induction l with
 | nil=>rfl
 | cons a r ih=>
  cases r with
  | nil=>rfl
  | cons b r=>
   have e:(a :: b :: r).length - 1=((b :: r).length - 1)+1:=by
    have h1:(a :: b :: r).length=r.length+2:=rfl
    have h2:(b :: r).length=r.length+1:=rfl
    lia
   rw [e,List.eraseIdx_cons_succ,ih]
   all_goals rfl
theorem Ju {α:Type}:∀(l:List α) (i:Nat),(l.eraseIdx i).length≤l.length
 | [],_=>ke _
 | _ :: _,0=>Nat.le_succ _
 | _ :: r,i+1=>Nat.succ_le_succ (Ju r i)
theorem JM (its:List Value):∀(k:Nat) (acc:List Value),
  List.foldl (fun x1 x2=>x1++x2) acc.toArray (List.replicate k its.toArray)=(acc++(List.replicate k its).flatten).toArray
 | 0,acc=>by simp
 | k+1,acc=>by
  have e:acc.toArray++its.toArray=(acc++its).toArray:=by simp
  have e2:(acc++its)++(List.replicate k its).flatten=acc++(List.replicate (k+1) its).flatten:=by
   rw [List.replicate_succ,List.flatten_cons,List.append_assoc]
  rw [←e2,←JM its k (acc++its),←e,List.replicate_succ,List.foldl_cons]
section
variable {X:Cx} {pins:List (Addr × Obj)} {σ:St} {H:Hp} {s:Shared} {l b:Addr} {xs ys zs:List V}
theorem Inv.lset {its its':List Value} {n:Nat} {f:Array Value→Array Value} {t':Nat} (I:Inv X pins σ H s) (hH:H l=some (.lst xs))
  (e:s.heap.get? l=some { cls:=.type "list",data:=.seq its.toArray n }) (hf:f its.toArray=its'.toArray) (hv:Vals ys its') (hz:ys.length≤sizeLine):
  Inv X pins σ (upd H l (.lst ys)) { s with heap:=s.heap.update l (Obj.mapSeq f),toks:=t' }:=by
 have q:=PySem.IsL.update e f
 rw [hf] at q
 refine I.write (x:=l) (e:=l) (by rw [hH];exact trivial) (.inl rfl) (fun b' u hb hu=>(Heap.get?_update_other s.heap (Obj.mapSeq f) (Ne.symm hb)).trans hu) ⟨_,q⟩ ?_
 exact ⟨hz,its',_,hv,q⟩
theorem Inv.lnew {its:List Value} {t':Nat} (I:Inv X pins σ H s) (hv:Vals ys its) (hz:ys.length≤sizeLine):
  Inv X pins σ (upd H s.heap.objs.size (.lst ys)) { s with heap:=s.heap.push { cls:=.type "list",data:=.seq its.toArray },toks:=t' }:=
 I.laid (fun _ _ q=>Heap.get?_push_of_some _ q) (ke _) ⟨hz,its,0,hv,Heap.get?_push_size _ rfl⟩
theorem Inv.fresh (I:Inv X pins σ H s):H s.heap.objs.size=none:=I.hok.fresh (ke _)
theorem Inv.lstM (I:Inv X pins σ H s) (hH:H l=some (.lst xs)):xs.length≤sizeLine∧∃(its:List Value) (n:Nat),Vals xs its∧xs.length=its.length∧s.heap.get? l=some { cls:=.type "list",data:=.seq its.toArray n }:=by
 obtain ⟨z,its,n,r,e⟩:=I.hok l _ hH
 exact ⟨z,its,n,r,r.length,e⟩
theorem z3Z {n:Nat} (h:n≤sizeLine):Builtin.List.listTooLong n=false:=by
 unfold Builtin.List.listTooLong
 exact kh (by lia)
end
section
variable {X:Cx}
def z0c:V→List V→Hp→VK→Prop:=fun x vs H Q=>∃l xs y,x=.ref l∧vs=[y]∧H l=some (.lst xs)∧xs.length < sizeLine∧Q .non (upd H l (.lst (xs++[y])))
theorem z2B:MtM X "list.append" z0c:=by
 intro pins s σ H x vs v us Q I rx rv h
 obtain ⟨l,xs,y,rfl,rfl,hH,hz,q⟩:=h
 cases rx
 obtain ⟨u,rfl,ru⟩:=rv.one
 obtain ⟨z,its,n,r,hl,e⟩:=I.lstM hH
 refine call_meets F.slot_list_append ⟨_,e,rfl⟩ F.entry_list_append (F.args_list_append_2 _ _) (PySem.list_append l its.toArray n u (by rw [kE];lia)) ⟨e,?_⟩
 refine ⟨.non,_,I.lset (its':=its++[u]) hH e (by simp) (r.append (.cons ru .nil)) ?_,rfl,q⟩
 rw [kl,kF]
 lia
def rPop:V→List V→Hp→VK→Prop:=fun x vs H Q=>∃l xs y,x=.ref l∧vs=[]∧H l=some (.lst xs)∧xs[xs.length - 1]?=some y∧Q y (upd H l (.lst xs.dropLast))
theorem z7a:MtM X "list.pop" rPop:=by
 intro pins s σ H x vs v us Q I rx rv h
 obtain ⟨l,xs,y,rfl,rfl,hH,hy,q⟩:=h
 cases rx
 have hus:=rv.zero
 subst hus
 obtain ⟨z,its,n,r,hl,e⟩:=I.lstM hH
 obtain ⟨u,hu,ru⟩:=r.get hy
 have hy':its.toArray[its.toArray.size - 1]?=some u:=by
  show its.toArray[its.length - 1]?=some u
  rw [←Array.getElem?_toList,←hl]
  exact hu
 refine call_meets F.slot_list_pop ⟨_,e,rfl⟩ F.entry_list_pop (F.args_list_pop_1 _) (MeetsSeq.list_pop_last l its.toArray n u hy' (by rw [kE];lia)) ⟨e,?_⟩
 refine ⟨y,_,I.lset (its':=its.dropLast) hH e ?_ r.dropLast ?_,ru,q⟩
 ·show its.toArray.eraseIdxIfInBounds (its.toArray.size - 1)=its.dropLast.toArray
  rw [kE,List.eraseIdxIfInBounds_toArray,z1A]
 ·rw [List.length_dropLast]
  lia
def z6Y:V→List V→Hp→VK→Prop:=fun x vs H Q=>∃l xs i k y,x=.ref l∧vs=[.int i]∧H l=some (.lst xs)∧-(2 ^ 63)≤i∧i < 2 ^ 63∧seqIndex? i xs.length=some k∧xs[k]?=some y∧Q y (upd H l (.lst (xs.eraseIdx k)))
theorem z0T:MtM X "list.pop" z6Y:=by
 intro pins s σ H x vs v us Q I rx rv h
 obtain ⟨l,xs,i,k,y,rfl,rfl,hH,h1,h2,hk,hy,q⟩:=h
 cases rx
 obtain ⟨u,rfl,ru⟩:=rv.one
 obtain ⟨t,rfl⟩:=ru
 obtain ⟨z,its,n,r,hl,e⟩:=I.lstM hH
 obtain ⟨w,hw,rw'⟩:=r.get hy
 refine call_meets F.slot_list_pop ⟨_,e,rfl⟩ F.entry_list_pop (F.args_list_pop_2 _ _)
  (MeetsSeq.list_pop_at l its.toArray n i t k w (fitsIndex_both h1 h2) (by rw [kE,←hl];exact hk) (by rw [←Array.getElem?_toList];exact hw) (by rw [kE];lia)) ⟨e,?_⟩
 refine ⟨y,_,I.lset (its':=its.eraseIdx k) hH e ?_ (r.eraseIdx k) ?_,rw',q⟩
 ·show its.toArray.eraseIdxIfInBounds k=(its.eraseIdx k).toArray
  rw [List.eraseIdxIfInBounds_toArray]
 ·have:=Ju xs k
  lia
def rCat:R2:=fun x y H Q=>∃l b xs zs,x=.ref l∧y=.ref b∧H l=some (.lst xs)∧H b=some (.lst zs)∧xs.length+zs.length≤sizeLine∧∀p,H p=none→Q (.ref p) (upd H p (.lst (xs++zs)))
theorem z0R:OpR X (binaryOp .Add) rCat:=by
 intro pins s σ H x y v u Q I rx ry h
 obtain ⟨l,b,xs,zs,rfl,rfl,hH,hB,hz,q⟩:=h
 cases rx
 cases ry
 obtain ⟨z,its,n,r,hl,e⟩:=I.lstM hH
 obtain ⟨z2,its2,n2,r2,hl2,e2⟩:=I.lstM hB
 refine PySem.P.add_list e e2 ?_ (by rw [kE,kE];lia)
 have ea:its.toArray++its2.toArray=(its++its2).toArray:=by simp
 rw [ea]
 exact ⟨.ref _,_,I.lnew (t':=s.toks) (r.append r2) (by rw [kl];lia),rfl,q _ I.fresh⟩
def rRep:R2:=fun x y H Q=>∃l k xs,x=.ref l∧y=.int k∧H l=some (.lst xs)∧-(2 ^ 63)≤k∧k < 2 ^ 63∧xs.length * k.toNat≤sizeLine∧
 ∀p,H p=none→Q (.ref p) (upd H p (.lst (List.replicate k.toNat xs).flatten))
theorem z5B {α:Type} (xs:List α) (k:Nat):(List.replicate k xs).flatten.length=k * xs.length:=by
 induction k with
 | zero=>simp
 | succ k ih=>rw [List.replicate_succ,List.flatten_cons,kl,ih,Nat.succ_mul,Nat.add_comm]
theorem z4Y:OpR X (binaryOp .Mult) rRep:=by
 intro pins s σ H x y v u Q I rx ry h
 obtain ⟨l,k,xs,rfl,rfl,hH,h1,h2,hz,q⟩:=h
 cases rx
 obtain ⟨t,rfl⟩:=ry
 obtain ⟨z,its,n,r,hl,e⟩:=I.lstM hH
 have hlen:its.toArray.size * k.toNat≤sizeLine:=by rw [kE,←hl];exact hz
 have hcap:¬its.toArray.size * k.toNat > (2 ^ 63 - 1) / 8:=by
  have:(sizeLine:Nat)≤(2 ^ 63 - 1) / 8:=by decide
  lia
 have hfit:¬(!Builtin.List.listFitsIndex k)=true:=by
  rw [fitsIndex_both h1 h2]
  exact ka
 have hlong:¬Builtin.List.listTooLong (its.toArray.size * k.toNat)=true:=by
  rw [z3Z hlen]
  exact ka
 have hnew:List.foldl (fun x1 x2=>x1++x2) #[] (List.replicate (if its.toArray.isEmpty=true then 0 else k.toNat) its.toArray)=(List.replicate k.toNat its).flatten.toArray:=by
  have f0:∀m:Nat,List.foldl (fun x1 x2=>x1++x2) #[] (List.replicate m its.toArray)=(List.replicate m its).flatten.toArray:=fun m=>by
   have:=JM its m []
   rw [List.nil_append] at this
   exact this
  rw [f0]
  cases its with
  | nil=>simp
  | cons a r'=>rw [kz (by simp)]
 refine wpAny_binaryOp_repeat_ref (T:="list") (U:="int") (by decide) ⟨_,e,rfl⟩ (fun s'=>typeIs_int s' k t) noFill_list_mul F.fills_int_mul F.slot_int_rmul repeat_list F.slot_int_index.lookup
  (call_meets F.slot_int_rmul (typeIs_int s k t) F.entry_int_rmul (F.args_int_rmul_2 _ _) (int___rmul___int_list k t l its.toArray n)
   ⟨e,rfl,⟨_,e,rfl⟩,call_meets F.slot_list_mul ⟨_,e,rfl⟩ F.entry_list_mul (F.args_list_mul_2 _ _) (AutoListH.list___mul___list_int_3 l its.toArray n k t hfit hcap hlong) ⟨e,?_⟩⟩)
 rw [hnew]
 exact ⟨.ref _,_,I.lnew (t':=s.toks) (r.rep k.toNat) (by rw [z5B,Nat.mul_comm];exact hz),rfl,q _ I.fresh⟩
end
section
variable {prog:Program} {w:World} {A:Around} {E:Value→Shared→Prop} {s:Shared}
set_option maxRecDepth 100000 in
end
section
variable {X:Cx}
end
end L2
namespace L2
open PySem PySem.Spec PyProof.Rows
section
variable {κ:Type} [DecidableEq κ]
noncomputable def valV (kvs:List (κ × V)) (k:κ):Option V:=(kvs.find? fun kv=>decide (kv.1=k)).map (·.2)
noncomputable def putK (kvs:List (κ × V)) (k:κ) (v:V):List (κ × V):=
 if (kvs.any fun kv=>decide (kv.1=k))=true then kvs.map (fun kv=>if kv.1=k then (kv.1,v) else kv) else kvs++[(k,v)]
noncomputable def z1B (kvs:List (κ × V)) (k:κ):List (κ × V):=kvs.filter fun kv=>decide (kv.1≠k)
theorem ql {p:κ × V} {r:List (κ × V)} {k:κ} (e:p.1=k):valV (p :: r) k=some p.2:=by simp [valV,List.find?_cons,e]
theorem qy {p:κ × V} {r:List (κ × V)} {k:κ} (e:¬p.1=k):valV (p :: r) k=valV r k:=by simp [valV,List.find?_cons,e]
theorem ZF (k:κ):∀kvs:List (κ × V),(kvs.any fun kv=>decide (kv.1=k))=(valV kvs k).isSome
 | []=>rfl
 | p :: r=>by
  rw [List.any_cons]
  by_cases e:p.1=k
  ·simp only [ql e,ki e,Bool.true_or,Option.isSome_some]
  ·rw [qy e,kh e,Bool.false_or];exact ZF k r
theorem z0z (k j:κ) (y:V):∀kvs:List (κ × V),valV (kvs.map fun kv=>if kv.1=k then (kv.1,y) else kv) j=(valV kvs j).map fun x=>if j=k then y else x
 | []=>rfl
 | p :: r=>by
  have ih:=z0z k j y r
  rw [kS]
  by_cases h:p.1=k
  ·rw [kA h]
   by_cases e:p.1=j
   ·rw [ql (p:=(p.1,y)) e,ql e,Option.map_some,kA (e.symm.trans h)]
   ·rw [qy (p:=(p.1,y)) e,qy e,ih]
  ·rw [kz h]
   by_cases e:p.1=j
   ·rw [ql (p:=p) e,ql e,Option.map_some,kz (fun z=>h (e.trans z))]
   ·rw [qy (p:=p) e,qy e,ih]
theorem J6 (k j:κ) (y:V):∀kvs:List (κ × V),valV kvs k=none→valV (kvs++[(k,y)]) j=if j=k then some y else valV kvs j
 | [],_=>by
  by_cases e:k=j
  ·rw [kA e.symm];exact ql (p:=(k,y)) e
  ·rw [kz (fun z=>e z.symm)];exact qy (p:=(k,y)) e
 | p :: r,hn=>by
  rw [List.cons_append]
  have hk:¬p.1=k:=fun z=>by rw [ql z] at hn;cases hn
  rw [qy hk] at hn
  have ih:=J6 k j y r hn
  by_cases e:p.1=j
  ·rw [ql e,ql e,kz (fun z=>hk (e.trans z))]
  ·rw [qy e,qy e,ih]
theorem QC (kvs:List (κ × V)) (k j:κ) (y:V):valV (putK kvs k y) j=if j=k then some y else valV kvs j:=by
 unfold putK
 by_cases a:(kvs.any fun kv=>decide (kv.1=k))=true
 ·rw [kA a,z0z]
  rw [ZF] at a
  by_cases e:j=k
  ·obtain ⟨x,hx⟩:=Option.isSome_iff_exists.mp a
   rw [kA e,e,hx,Option.map_some,kA rfl]
  ·rw [kz e]
   cases valV kvs j with
   | none=>rfl
   | some x=>rw [Option.map_some,kz e]
 ·rw [kz a]
  refine J6 k j y kvs ?_
  rw [ZF] at a
  cases q:valV kvs k with
  | none=>rfl
  | some x=>rw [q] at a;exact (a rfl).elim
theorem qF (kvs:List (κ × V)) (k:κ) (v:V):(putK kvs k v).length≤kvs.length+1:=by
 unfold putK
 split
 ·rw [kj];lia
 ·rw [kl,kO,List.length_nil];lia
theorem RelO.isSome_eq {o:Option V} {u:Option Value} (r:RelO o u):o.isSome=u.isSome:=by
 cases o with
 | none=>cases u with
  | none=>rfl
  | some _=>exact (show False from r).elim
 | some _=>cases u with
  | none=>exact (show False from r).elim
  | some _=>rfl
theorem RelO.getD {o:Option V} {u:Option Value} {d:V} {d':Value} (r:RelO o u) (rd:RelV d d'):RelV (o.getD d) (u.getD d'):=by
 cases o with
 | none=>cases u with
  | none=>exact rd
  | some _=>exact (show False from r).elim
 | some _=>cases u with
  | none=>exact (show False from r).elim
  | some _=>exact r
theorem KV.val {kvs:List (κ × V)} {vs:List (κ × Value)} (r:KV kvs vs) (k:κ):RelO (valV kvs k) (valueAt vs k):=by
 unfold KV at r
 induction r with
 | nil=>exact True.intro
 | @cons p q ps qs h t ih=>
  obtain ⟨h1,h2⟩:=h
  by_cases e:p.1=k
  ·have e':q.1=k:=h1.symm.trans e
   have b:valueAt (q :: qs) k=some q.2:=by simp [valueAt,List.find?_cons,e']
   rw [ql e,b];exact h2
  ·have e':¬q.1=k:=fun z=>e (h1.trans z)
   have b:valueAt (q :: qs) k=valueAt qs k:=by simp [valueAt,List.find?_cons,e']
   rw [qy e,b];exact ih
theorem KV.any {kvs:List (κ × V)} {vs:List (κ × Value)} (r:KV kvs vs) (k:κ):(kvs.any fun kv=>decide (kv.1=k))=vs.any fun kv=>decide (kv.1=k):=by
 unfold KV at r
 induction r with
 | nil=>rfl
 | cons h t ih=>rw [List.any_cons,List.any_cons,ih,h.1]
theorem KV.repl {kvs:List (κ × V)} {vs:List (κ × Value)} (r:KV kvs vs) (k:κ) {y:V} {u:Value} (ry:RelV y u):
  KV (kvs.map fun kv=>if kv.1=k then (kv.1,y) else kv) (vs.map fun kv=>if kv.1=k then (kv.1,u) else kv):=by
 unfold KV at r ⊢
 induction r with
 | nil=>exact .nil
 | @cons p q ps qs h t ih=>
  rw [kS,kS]
  refine .cons ?_ ih
  obtain ⟨h1,h2⟩:=h
  by_cases e:p.1=k
  ·rw [kA e,kA (h1.symm.trans e)];exact ⟨h1,ry⟩
  ·rw [kz e,kz (fun z=>e (h1.trans z))];exact ⟨h1,h2⟩
theorem KV.put {kvs:List (κ × V)} {vs:List (κ × Value)} (r:KV kvs vs) (k:κ) {y:V} {u:Value} (ry:RelV y u):KV (putK kvs k y) (stored vs k u):=by
 unfold putK stored
 rw [r.any k]
 by_cases e:(vs.any fun kv=>decide (kv.1=k))=true
 ·rw [kA e,kA e];exact r.repl k ry
 ·rw [kz e,kz e];exact Paired.snoc r ⟨rfl,ry⟩
theorem KV.drop {kvs:List (κ × V)} {vs:List (κ × Value)} (r:KV kvs vs) (k:κ):KV (z1B kvs k) (without vs k):=by
 unfold KV at r ⊢
 unfold z1B without
 induction r with
 | nil=>exact .nil
 | @cons p q ps qs h t ih=>
  obtain ⟨h1,h2⟩:=h
  rw [List.filter_cons,List.filter_cons]
  by_cases e:p.1=k
  ·have a:¬decide (p.1≠k)=true:=by simp [e]
   have b:¬decide (q.1≠k)=true:=by simp [h1.symm.trans e]
   rw [kz a,kz b];exact ih
  ·have e':¬q.1=k:=fun z=>e (h1.trans z)
   have a:decide (p.1≠k)=true:=by simp [e]
   have b:decide (q.1≠k)=true:=by simp [e']
   rw [kA a,kA b];exact .cons ⟨h1,h2⟩ ih
theorem KV.length {kvs:List (κ × V)} {vs:List (κ × Value)} (r:KV kvs vs):kvs.length=vs.length:=Paired.length r
theorem z4B (kvs:List (κ × V)) (k:κ):(z1B kvs k).length≤kvs.length:=List.length_filter_le _ _
end
theorem QS {P:Program} {w:World} {k:Key} {u:Value} (r:RelV (kV k) u):(zK P w).is k u=true:=by
 cases k with
 | inl i=>obtain ⟨t,e⟩:=(show ∃t,u=Value.int i t from r);subst e;exact z0l P w i t
 | inr x=>obtain ⟨t,e⟩:=(show ∃t,u=Value.str x t from r);subst e;exact z0k P w x t
theorem JE {P:Program} {w:World}:∀{ks:List Key} {us:List Value},Vals (ks.map kV) us→ItemsAre (zK P w) ks us
 | [],_,r=>by rw [List.map_nil] at r;cases r;exact .nil
 | k :: ks,_,r=>by
  rw [kS] at r
  cases r with
  | cons h t=>exact .cons (QS h) (JE t)
abbrev KT (H:Hp):List (List Key × V)→List (List Key × Addr × Value)→Prop:=Paired fun p q=>p.1=q.1∧H q.2.1=some (.tup (p.1.map kV))∧RelV p.2 q.2.2
theorem KT.val {H:Hp} {kvs:List (List Key × V)} {xs:List (List Key × Addr × Value)} (r:KT H kvs xs) (k:List Key):RelO (valV kvs k) ((atKey xs k).map (·.2)):=by
 induction r with
 | nil=>exact True.intro
 | @cons p q ps qs h t ih=>
  obtain ⟨h1,_,h2⟩:=h
  by_cases e:p.1=k
  ·have e':q.1=k:=h1.symm.trans e
   have b:atKey (q :: qs) k=some q.2:=by simp [atKey,List.find?_cons,e']
   rw [ql e,b];exact h2
  ·have e':¬q.1=k:=fun z=>e (h1.trans z)
   have b:atKey (q :: qs) k=atKey qs k:=by simp [atKey,List.find?_cons,e']
   rw [qy e,b];exact ih
theorem KT.repl {H:Hp} {kvs:List (List Key × V)} {xs:List (List Key × Addr × Value)} (r:KT H kvs xs) (k:List Key) {y:V} {u:Value} (ry:RelV y u):
  KT H (kvs.map fun kv=>if kv.1=k then (kv.1,y) else kv) (xs.map (putAt k u)):=by
 induction r with
 | nil=>exact .nil
 | @cons p q ps qs h t ih=>
  rw [kS,kS]
  refine .cons ?_ ih
  obtain ⟨h1,h2,h3⟩:=h
  unfold putAt
  by_cases e:p.1=k
  ·rw [kA e,kA (h1.symm.trans e)];exact ⟨h1,h2,ry⟩
  ·rw [kz e,kz (fun z=>e (h1.trans z))];exact ⟨h1,h2,h3⟩
theorem KT.put {H:Hp} {kvs:List (List Key × V)} {xs:List (List Key × Addr × Value)} (r:KT H kvs xs) (k:List Key) {b:Addr} {y:V} {u:Value} (hb:H b=some (.tup (k.map kV))) (ry:RelV y u):
  KT H (putK kvs k y) (storedH xs k b u):=by
 have e:(kvs.any fun kv=>decide (kv.1=k))=(atKey xs k).isSome:=by
  rw [ZF,(r.val k).isSome_eq,Option.isSome_map]
 unfold putK storedH
 rw [e]
 by_cases q:(atKey xs k).isSome=true
 ·rw [kA q,kA q];exact r.repl k ry
 ·rw [kz q,kz q];exact Paired.snoc r ⟨rfl,hb,ry⟩
theorem KT.keeps {H H':Hp} {kvs:List (List Key × V)} {xs:List (List Key × Addr × Value)} (r:KT H kvs xs) (ht:∀b ys,H b=some (.tup ys)→H' b=some (.tup ys)):KT H' kvs xs:=
 Paired.mapP r fun _ _ z=>⟨z.1,ht _ _ z.2.1,z.2.2⟩
section
variable {P:Program} {w:World} {H:Hp} {h:Heap} {a:Addr}
theorem z6X {u:HO} (ok:HOk P w H h) (e:Rd H a u):zZ P w H h a u:=e.ok ok
theorem QW {kvs:List (Key × V)} (ok:HOk P w H h) (e:Rd H a (.dK kvs)):kvs.length≤sizeLine∧(a == sysModules)=false∧∃vs,KV kvs vs∧h.DictOf (zK P w) a vs:=
 show zZ P w H h a (.dK kvs) from z6X ok e
theorem z0u {kvs:List (Key × V)} (ok:HOk P w H h) (e:H a=some (.dK kvs)):kvs.length≤sizeLine∧(a == sysModules)=false∧∃vs,KV kvs vs∧h.DictOf (zK P w) a vs:=QW ok (.inl e)
theorem Qu {ks:List Key} (ok:HOk P w H h) (e:H a=some (.tup (ks.map kV))):(tupleKind (zK P w)).is h ks a:=by
 obtain ⟨_,its,r,o,h1,h2,n,h3⟩:=(show zZ P w H h a (.tup (ks.map kV)) from ok a _ e)
 exact ⟨o,its.toArray,n,h1,h2,h3,by simpa using JE r⟩
theorem z0t {kvs:List (List Key × V)} (ok:HOk P w H h) (e:Rd H a (.dT kvs)):kvs.length≤sizeLine∧(a == sysModules)=false∧
  ∃xs,KT H kvs xs∧h.DictOfH (tupleKind (zK P w)) a xs:=by
 obtain ⟨z,y,xs,r,o,es,ep,h1,h2,h3,h4,h5⟩:=(show zZ P w H h a (.dT kvs) from z6X ok e)
 refine ⟨z,y,xs,r,o,es,ep,h1,h2,h3,h4,fun x hx=>?_,h5⟩
 have all:∀{l:List (List Key × V)} {m:List (List Key × Addr × Value)},KT H l m→∀x∈m,(tupleKind (zK P w)).is h x.1 x.2.1:=by
  intro l m q
  induction q with
  | nil=>intro x hx;exact nomatch hx
  | @cons p q ps qs hq t ih=>
   intro x hx
   rcases kD.mp hx with e | hx
   ·subst e
    exact Qu ok (by rw [←hq.1];exact hq.2.1)
   ·exact ih x hx
 exact all r x hx
theorem z8D {kvs:List (List Key × V)} (ok:HOk P w H h) (e:H a=some (.dT kvs)):kvs.length≤sizeLine∧(a == sysModules)=false∧
  ∃xs,KT H kvs xs∧h.DictOfH (tupleKind (zK P w)) a xs:=z0t ok (.inl e)
end
def DGet (H:Hp) (a:Addr) (y:V) (r:Option V):Prop:=
 (∃kvs k,Rd H a (.dK kvs)∧y=kV k∧r=valV kvs k)∨∃kvs k b,Rd H a (.dT kvs)∧y=.ref b∧H b=some (.tup (k.map kV))∧r=valV kvs k
def DPut (H:Hp) (a:Addr) (y v:V) (H':Hp):Prop:=
 (∃kvs k,H a=some (.dK kvs)∧y=kV k∧kvs.length < sizeLine∧H'=upd H a (.dK (putK kvs k v)))∨
 ∃kvs k b,H a=some (.dT kvs)∧y=.ref b∧H b=some (.tup (k.map kV))∧kvs.length < sizeLine∧H'=upd H a (.dT (putK kvs k v))
theorem DGet.k {H:Hp} {a:Addr} {kvs:List (Key × V)} {k:Key} (e:H a=some (.dK kvs)):DGet H a (kV k) (valV kvs k):=.inl ⟨kvs,k,.inl e,rfl,rfl⟩
theorem DPut.k {H:Hp} {a:Addr} {kvs:List (Key × V)} {k:Key} {v:V} (e:H a=some (.dK kvs)) (hl:kvs.length < sizeLine):DPut H a (kV k) v (upd H a (.dK (putK kvs k v))):=.inl ⟨kvs,k,e,rfl,hl,rfl⟩
section
variable {X:Cx} {pins:List (Addr × Obj)} {σ:St} {H:Hp} {s:Shared} {a:Addr} {y v:V} {u r:Value} {o:Option V} {A:Around} {E:Value→Shared→Prop}
theorem Inv.big (I:Inv X pins σ H s):sysModules < s.heap.objs.size:=by
 have h:mainGlobals < s.heap.objs.size:=(I.mod.glob.keeps I.bk).lt
 exact Nat.lt_trans (by decide) h
theorem z3i {Q:Value→Shared→Prop} (hu:A.units+1 < cLine) (I:Inv X pins σ H s) (g:DGet H a y (some v)) (ry:RelV y u) (h:∀w' s',Inv X pins σ H s'→RelV v w'→Q w' s'):
  wpAny (model X.prog X.w) A (getItem (.ref a) u) Q E s:=by
 rcases g with ⟨kvs,k,e,ey,l⟩ | ⟨kvs,k,b,e,ey,eb,l⟩
 ·subst ey
  obtain ⟨z,hd,vs,rel,dd⟩:=QW I.hok e
  obtain ⟨w',hw,rw'⟩:=RelO.some_of (v:=v) (o:=valueAt vs k) (by rw [l];exact rel.val k)
  exact wpAny_getItem_of (QS ry) dd.mapOf hw (h w' _ (I.tok _) rw')
 ·subst ey
  cases (show u=Value.ref b from ry)
  obtain ⟨z,hd,xs,rel,dd⟩:=z0t I.hok e
  obtain ⟨w',hw,rw'⟩:=RelO.some_of (v:=v) (o:=(atKey xs k).map (·.2)) (by rw [l];exact rel.val k)
  obtain ⟨p,hp,hp2⟩:=Option.map_eq_some_iff.mp hw
  refine wpAny_getItem_heap (tupleKind_room_in1 hu) (Qu I.hok eb) dd hp ?_
  rw [hp2]
  exact h w' _ (I.tok _) rw'
theorem d_in {Q:Value→Shared→Prop} (hu:A.units+1 < cLine) (I:Inv X pins σ H s) (g:DGet H a y o) (ry:RelV y u) (h:∀s',Inv X pins σ H s'→Q (.bool o.isSome) s'):
  wpAny (model X.prog X.w) A (compareOp .In u (.ref a)) Q E s:=by
 rcases g with ⟨kvs,k,e,ey,l⟩ | ⟨kvs,k,b,e,ey,eb,l⟩
 ·subst ey
  obtain ⟨z,hd,vs,rel,dd⟩:=QW I.hok e
  refine wpAny_in_of (QS ry) hd dd.mapOf ?_
  rw [←(rel.val k).isSome_eq,←l]
  exact h _ (I.tok _)
 ·subst ey
  cases (show u=Value.ref b from ry)
  obtain ⟨z,hd,xs,rel,dd⟩:=z0t I.hok e
  refine wpAny_in_heap (tupleKind_room_in1 hu) (Qu I.hok eb) hd dd ?_
  have q:=(rel.val k).isSome_eq
  rw [Option.isSome_map] at q
  rw [←q,←l]
  exact h _ (I.tok _)
theorem z6i {Q:Value→Shared→Prop} (hu:A.units+1 < cLine) (I:Inv X pins σ H s) (g:DGet H a y o) (ry:RelV y u) (h:∀s',Inv X pins σ H s'→Q (.bool (!o.isSome)) s'):
  wpAny (model X.prog X.w) A (compareOp .NotIn u (.ref a)) Q E s:=by
 rcases g with ⟨kvs,k,e,ey,l⟩ | ⟨kvs,k,b,e,ey,eb,l⟩
 ·subst ey
  obtain ⟨z,hd,vs,rel,dd⟩:=QW I.hok e
  refine wpAny_notIn_of (QS ry) hd dd.mapOf ?_
  rw [←(rel.val k).isSome_eq,←l]
  exact h _ (I.tok _)
 ·subst ey
  cases (show u=Value.ref b from ry)
  obtain ⟨z,hd,xs,rel,dd⟩:=z0t I.hok e
  refine wpAny_notIn_heap (tupleKind_room_in1 hu) (Qu I.hok eb) hd dd ?_
  have q:=(rel.val k).isSome_eq
  rw [Option.isSome_map] at q
  rw [←q,←l]
  exact h _ (I.tok _)
theorem Zo {h':Heap} {t':Nat} {ob:HO} (I:Inv X pins σ H s) (mu:Mut (H a)) (hs:Heap.SameBut a s.heap h') (he:∃q,h'.get? a=some q) (new:zZ X.prog X.w (upd H a ob) h' a ob):
  Inv X pins σ (upd H a ob) { s with heap:=h',toks:=t' }:=
 I.write (x:=a) (e:=a) mu (.inl rfl) (fun b q hb z=>(hs.2 b hb).trans z) he new
theorem Qy {P:Program} {w:World} {H':Hp} {h':Heap} {kvs:List (Key × V)} {vs:List (Key × Value)} (z:kvs.length≤sizeLine) (hd:(a == sysModules)=false) (rel:KV kvs vs) (dd:h'.DictOf (zK P w) a vs):
  zZ P w H' h' a (.dK kvs):=⟨z,hd,vs,rel,dd⟩
theorem z3h {H':Hp} {Q:Unit→Shared→Prop} (hu:A.units+1 < cLine) (I:Inv X pins σ H s) (g:DPut H a y v H') (ry:RelV y u) (rv:RelV v r) (h:∀s',Inv X pins σ H' s'→Q () s'):
  wpAny (model X.prog X.w) A (setItem (.ref a) u r) Q E s:=by
 rcases g with ⟨kvs,k,e,ey,l,eH⟩ | ⟨kvs,k,b,e,ey,eb,l,eH⟩
 ·subst ey eH
  obtain ⟨z,hd,vs,rel,dd⟩:=z0u I.hok e
  have hz:vs.length≤sizeLine:=by rw [←rel.length];exact z
  have hl:(putK kvs k v).length≤sizeLine:=by have:=qF kvs k v;lia
  refine wpAny_setItem_pairs (hsz:=hz) (QS ry) dd fun h' dd' hs=>h _ ?_
  have he:∃q,h'.get? a=some q:=let ⟨q,_,_,hq,_⟩:=dd';⟨q,hq⟩
  exact Zo I (by rw [e];exact True.intro) hs he (Qy hl hd (rel.put k rv) dd')
 ·subst ey eH
  cases (show u=Value.ref b from ry)
  obtain ⟨z,hd,xs,rel,dd⟩:=z8D I.hok e
  have hz:xs.length≤sizeLine:=by rw [←Paired.length rel];exact z
  have hl:(putK kvs k v).length≤sizeLine:=by have:=qF kvs k v;lia
  refine wpAny_setItem_heap (hsz:=hz) (tupleKind_room_in1 hu) (Qu I.hok eb) dd fun h' dd' hs=>h _ ?_
  obtain ⟨q,es,ep,hq,h2,h3,h4,_,h5⟩:=dd'
  refine Zo I (by rw [e];exact True.intro) hs ⟨q,hq⟩ ⟨hl,hd,_,(rel.put k eb rv).keeps fun c ys ec=>?_,q,es,ep,hq,h2,h3,h4,h5⟩
  rw [ze (zD ec e (fun z=>nomatch z))]
  exact ec
end
section
variable {X:Cx} {pins:List (Addr × Obj)} {σ:St} {H:Hp} {s:Shared} {a:Addr} {kvs:List (Key × V)} {k:Key} {u:Value} {A:Around} {E:Value→Shared→Prop}
theorem z8E {v:V} {more:List Value} {Q:Value→Shared→Prop} (I:Inv X pins σ H s) (e:H a=some (.dK kvs)) (ry:RelV (kV k) u) (l:valV kvs k=some v) (hm:more=[]∨∃x,more=[x])
  (h:∀w' s',Inv X pins σ (upd H a (.dK (z1B kvs k))) s'→RelV v w'→Q w' s'):wpAny (model X.prog X.w) A (call (.builtin "dict.pop") (.ref a :: u :: more)) Q E s:=by
 obtain ⟨z,hd,vs,rel,dd⟩:=z0u I.hok e
 obtain ⟨w',hw,rw'⟩:=RelO.some_of (v:=v) (o:=valueAt vs k) (by rw [←l];exact rel.val k)
 have hp:(keyPart u).isSome=true:=by
  cases k with
  | inl i=>obtain ⟨t,q⟩:=(show ∃t,u=Value.int i t from ry);subst q;rfl
  | inr x=>obtain ⟨t,q⟩:=(show ∃t,u=Value.str x t from ry);subst q;rfl
 have ha:argsOk "dict.pop" ⟨.ref a :: u :: more,[]⟩:=by
  rcases hm with q | ⟨x,q⟩
  ·subst q;exact PySem.F.args_dict_pop_2 _ _
  ·subst q;exact PySem.F.args_dict_pop_3 _ _ _
 refine call_meetsIn PySem.F.slot_dict_pop dd.typeIs PySem.F.entry_dict_pop ha (meets_dict_pop_there (zK X.prog X.w) a (QS ry) more hm hp)
  ⟨vs,w',dd,by rw [←rel.length];exact z,hw,fun h' dd' hs=>h w' _ ?_ rw'⟩
 have he:∃q,h'.get? a=some q:=let ⟨q,_,_,hq,_⟩:=dd';⟨q,hq⟩
 exact Zo I (by rw [e];exact True.intro) hs he (Qy (ku (z4B kvs k) z) hd (rel.drop k) dd')
theorem z8F {Q:Value→Shared→Prop} (I:Inv X pins σ H s) (e:Rd H a (.dK kvs)) (h:∀t s',Inv X pins σ H s'→Q (.int kvs.length t) s'):wpAny (model X.prog X.w) A (call (.builtin "len") [.ref a]) Q E s:=by
 obtain ⟨z,hd,vs,rel,dd⟩:=QW I.hok e
 refine call_len_dict hd dd (by rw [←rel.length];rw [sizeLine_eq] at z;lia) ?_
 rw [←rel.length]
 exact h _ _ (I.tok _)
end
def NoSl (i:Expr):Prop:=∀ov iv,subscripted i false ov iv=operate [ov,iv] (getItem ov iv)
theorem z1R {prog:Program} {w:World} {A:Around} {E:Value→Shared→Prop} {s:Shared} {env:Env} {value slice:Expr} {pos:Pos} {T id:String} {Q:Value→Shared→Prop}
  (hl:typeLookup (.type T) "__getitem__"=pure (some (.builtin id))) (hs:NoSl slice)
  (h:wpAny (model prog w) A (eval value env) (fun o s₁=>wpAny (model prog w) A (eval slice env) (fun i s₂=>s₂.TypeIs o T∧wpAny (model prog w) A (getItem o i) Q E s₂) E s₁) E s):
  wpAny (model prog w) A (eval (.Subscript value slice pos) env) Q E s:=by
 refine Subscript_ (wpAny_mono h (fun o s₁ h₁=>wpAny_mono h₁ (fun i s₂ h₂=>?_) fun _ _ x=>x) fun _ _ x=>x)
 obtain ⟨hT,h₂⟩:=h₂
 unfold subscriptTail
 refine wpAny_bind ?_
 rw [getitemInPython_of_ne hT.not_modules]
 refine wpAny_bind (wpAny_specialOf hT hl ?_)
 have fin:wpAny (model prog w) A (subscripted slice false o i) (fun r s₃=>wpAny (model prog w) A (letTemporaryGo value o r >>= fun _=>pure r) Q E s₃) E s₂:=by
  rw [hs o i]
  exact wpAny_operating (wpAny_mono h₂ (fun r s₃ h₃=>wpAny_bind (wpAny_letTemporaryGo (wpAny_pure h₃))) fun _ _ x=>x)
 first
  | exact wpAny_pure (wpAny_bind fin)
  | exact wpAny_bind (wpAny_pure (wpAny_bind fin))
  | exact wpAny_bind fin
theorem z0v {X:Cx} {pins:List (Addr × Obj)} {σ:St} {H:Hp} {s:Shared} {a:Addr} {y:V} {o:Option V} (I:Inv X pins σ H s) (g:DGet H a y o):s.TypeIs (.ref a) "dict":=by
 rcases g with ⟨kvs,k,e,_,_⟩ | ⟨kvs,k,b,e,_,_,_⟩
 ·obtain ⟨_,_,vs,_,dd⟩:=QW I.hok e
  exact dd.typeIs
 ·obtain ⟨_,_,xs,_,dd⟩:=z0t I.hok e
  exact dd.typeIs
def z7X (td ty:TE):TE:=fun σ H Q=>td σ H fun x H1=>ty σ H1 fun y H2=>∃a v,x=.ref a∧DGet H2 a y (some v)∧Q v H2
def tDIn (ty td:TE):TE:=fun σ H Q=>ty σ H fun y H1=>td σ H1 fun x H2=>∃a o,x=.ref a∧DGet H2 a y o∧Q (.bl o.isSome) H2
def z5b (ty td:TE):TE:=fun σ H Q=>ty σ H fun y H1=>td σ H1 fun x H2=>∃a o,x=.ref a∧DGet H2 a y o∧Q (.bl (!o.isSome)) H2
def z88 (td ty tv:TE):TS:=fun D σ H=>tv σ H fun v H1=>td σ H1 fun x H2=>ty σ H2 fun y H3=>∃a H4,x=.ref a∧DPut H3 a y v H4∧D.nx σ H4
section
variable {X:Cx} {o i e value:Expr} {pos pos' tpos:Pos} {td ty tv:TE}
theorem jy (hu:X.A.units+1 < cLine) (ho:PE X o td) (hi:PE X i ty) (hs:NoSl i):PE X (.Subscript o i pos) (z7X td ty):=by
 intro pins s σ H Q I h
 refine z1R PySem.F.slot_dict_getitem.lookup hs (thn (ho pins s σ H _ I h) fun u s1 ⟨x,H1,I1,rx,q1⟩=>thn (hi pins s1 σ H1 _ I1 q1) fun iv s2 zz=>?_)
 obtain ⟨y,H2,I2,ry,a,v,ex,g,q2⟩:=zz
 subst ex
 obtain rfl:u=Value.ref a:=rx
 exact ⟨z0v I2 g,z3i hu I2 g ry fun w' s3 I3 rw'=>⟨v,H2,I3,rw',q2⟩⟩
theorem z74 (hu:X.A.units+1 < cLine) (hi:PE X i ty) (ho:PE X o td):PC X .In i o (tDIn ty td):=by
 intro pins s σ H Q I h
 refine thn (hi pins s σ H _ I h) fun iv s1 ⟨y,H1,I1,ry,q1⟩=>thn (ho pins s1 σ H1 _ I1 q1) fun u s2 zz=>?_
 obtain ⟨x,H2,I2,rx,a,ov,ex,g,q2⟩:=zz
 subst ex
 obtain rfl:u=Value.ref a:=rx
 exact d_in hu I2 g ry fun s3 I3=>⟨.bl ov.isSome,H2,I3,rfl,q2⟩
theorem Jm (hu:X.A.units+1 < cLine) (hi:PE X i ty) (ho:PE X o td):PC X .NotIn i o (z5b ty td):=by
 intro pins s σ H Q I h
 refine thn (hi pins s σ H _ I h) fun iv s1 ⟨y,H1,I1,ry,q1⟩=>thn (ho pins s1 σ H1 _ I1 q1) fun u s2 zz=>?_
 obtain ⟨x,H2,I2,rx,a,ov,ex,g,q2⟩:=zz
 subst ex
 obtain rfl:u=Value.ref a:=rx
 exact z6i hu I2 g ry fun s3 I3=>⟨.bl (!ov.isSome),H2,I3,rfl,q2⟩
theorem z2f (hu:X.A.units+1 < cLine) (ho:PE X o td) (hi:PE X i ty) (hv:PE X value tv) (hs:swapsWith value (some (.Subscript o i pos')) pos.line X.env=pure false):
  PS X (.Assign [.Subscript o i pos'] value pos) (z88 td ty tv):=by
 intro pins s σ H D I h
 refine wpAny_Assign_Subscript (thn (hv pins s σ H _ I h) fun r s1 ⟨v,H1,I1,rv,q1⟩=>thn (ho pins s1 σ H1 _ I1 q1) fun u s2 ⟨x,H2,I2,rx,q2⟩=>thn (hi pins s2 σ H2 _ I2 q2) fun iv s3 ⟨y,H3,I3,ry,a,H4,ex,g,q3⟩=>?_) hs
 subst ex
 obtain rfl:u=Value.ref a:=rx
 exact z3h hu I3 g ry rv fun s4 I4=>⟨σ,H4,I4,q3⟩
end
theorem ZM {P:Program} {w:World} {H:Hp} (h:Heap) (hb:sysModules < h.objs.size):zZ P w H (h.push { cls:=.type "dict",data:=.dict #[] }) h.objs.size (.dK []):=
 ⟨Nat.zero_le _,beq_eq_false_iff_ne.mpr (Ne.symm (Nat.ne_of_lt hb)),[],.nil,Heap.DictOf.new h⟩
def z6F:TE:=fun _ H Q=>∀p,H p=none→Q (.ref p) (upd H p (.dK []))
section
variable {X:Cx} {pos:Pos}
theorem z0P:PE X (.Dict [] [] pos) z6F:=fun pins s σ H Q I h=>
 wpAny_Dict_empty ⟨.ref s.heap.objs.size,_,I.laid (a:=s.heap.objs.size) (o:=.dK []) (t':=s.toks) (fun _ _ q=>Heap.get?_push_of_some _ q) (ke _) (ZM s.heap I.big),rfl,h _ (I.hok.fresh (ke _))⟩
end
def z0E:List (TE × TE)→St→Hp→(List (V × V)→Hp→Prop)→Prop
 | [],_,H,Q=>Q [] H
 | (tk,tv) :: r,σ,H,Q=>tk σ H fun x H1=>tv σ H1 fun y H2=>z0E r σ H2 fun ps H3=>Q ((x,y) :: ps) H3
abbrev VV:List (V × V)→List (Value × Value)→Prop:=Paired fun p q=>RelV p.1 q.1∧RelV p.2 q.2
def PPs (X:Cx) (pos:Pos) (keys:List (Option Expr)) (values:List Expr) (trs:List (TE × TE)):Prop:=
 ∀(pins:List (Addr × Obj)) (s:Shared) (σ:St) (H:Hp) (Q:List (V × V)→Hp→Prop),Inv X pins σ H s→z0E trs σ H Q→
  wpAny (model X.prog X.w) X.A (evalPairs (pairTrees keys values X.env pos)) (fun vs s'=>∃ps H',Inv X pins σ H' s'∧VV ps vs∧Q ps H') X.xe s
theorem Zd {X:Cx} {pos:Pos}:PPs X pos [] [] []:=fun pins s σ H Q I h=>pairTrees_nil_walk ⟨[],H,I,.nil,h⟩
theorem qB {X:Cx} {pos:Pos} {k v:Expr} {ks:List (Option Expr)} {vs:List Expr} {tk tv:TE} {trs:List (TE × TE)} (hk:PE X k tk) (hv:PE X v tv) (hr:PPs X pos ks vs trs):
  PPs X pos (some k :: ks) (v :: vs) ((tk,tv) :: trs):=fun pins s σ H Q I h=>
 pairTrees_cons_walk (thn (hk pins s σ H _ I h) fun u s1 ⟨x,H1,I1,rx,q1⟩=>thn (hv pins s1 σ H1 _ I1 q1) fun w2 s2 ⟨y,H2,I2,ry,q2⟩=>
  thn (hr pins s2 σ H2 _ I2 q2) fun ws s3 ⟨ps,H3,I3,rel,q3⟩=>⟨(x,y) :: ps,H3,I3,.cons ⟨rx,ry⟩ rel,q3⟩)
noncomputable def qz (kvs more:List (Key × V)):List (Key × V):=more.foldl (fun acc kv=>putK acc kv.1 kv.2) kvs
theorem KV.merge:∀{more:List (Key × V)} {rs:List (Key × Value)} {kvs:List (Key × V)} {vs:List (Key × Value)},KV more rs→KV kvs vs→KV (qz kvs more) (merged vs rs):=by
 intro more rs kvs vs r
 unfold KV at r
 induction r generalizing kvs vs with
 | nil=>intro q;exact q
 | @cons p q ps qs h t ih=>
  intro r0
  have e:KV (putK kvs p.1 p.2) (stored vs q.1 q.2):=by
   have:=r0.put p.1 h.2
   rw [←h.1];exact this
  exact ih e
theorem jl:∀(more kvs:List (Key × V)),(qz kvs more).length≤kvs.length+more.length
 | [],kvs=>by show kvs.length≤kvs.length+0;lia
 | p :: r,kvs=>by
  have h1:=jl r (putK kvs p.1 p.2)
  have h2:=qF kvs p.1 p.2
  show (qz (putK kvs p.1 p.2) r).length≤_
  rw [kO];lia
theorem QA {P:Program} {w:World}:∀{kvs:List (Key × V)} {ws:List (Value × Value)},VV (kvs.map fun kv=>(kV kv.1,kv.2)) ws→∃rs,Carries (zK P w) ws rs∧KV kvs rs
 | [],_,r=>by rw [List.map_nil] at r;cases r;exact ⟨[],True.intro,.nil⟩
 | p :: kvs,_,r=>by
  rw [kS] at r
  cases r with
  | @cons a b as bs h t=>
   obtain ⟨rs,c,q⟩:=QA (P:=P) (w:=w) t
   obtain ⟨b1,b2⟩:=b
   exact ⟨(p.1,b2) :: rs,⟨QS h.1,rfl,c⟩,.cons ⟨rfl,h.2⟩ q⟩
def z7W (trs:List (TE × TE)):TE:=fun σ H Q=>∀p,H p=none→z0E trs σ (upd H p (.dK [])) fun ps H2=>H2 p=some (.dK [])∧∃kvs:List (Key × V),ps=kvs.map (fun kv=>(kV kv.1,kv.2))∧kvs.length≤15∧Q (.ref p) (upd H2 p (.dK (qz [] kvs)))
theorem ZY {X:Cx} {pos:Pos} {keys:List (Option Expr)} {values:List Expr} {trs:List (TE × TE)} (h:PPs X pos keys values trs) (hall:keys.all (·.isSome)=true) (hl:keys.length=values.length) (h0:keys≠[])
  (h15:keys.length≤15):PE X (.Dict keys values pos) (z7W trs):=by
 intro pins s σ H Q I q
 have hn:=I.hok.fresh (ke s.heap.objs.size)
 have I1:=I.laid (a:=s.heap.objs.size) (o:=.dK []) (h':=s.heap.push { cls:=.type "dict",data:=.dict #[] }) (t':=s.toks) (fun _ _ q=>Heap.get?_push_of_some _ q) (ke _) (ZM s.heap I.big)
 refine wpAny_Dict_walk (knd:=zK X.prog X.w) hall hl h0 h15 (thn (h pins _ σ _ _ I1 (q _ hn)) fun ws s2 zz=>?_)
 obtain ⟨ps,H2,I2,rel,e,kvs,ep,lk,q2⟩:=zz
 subst ep
 obtain ⟨rs,c,rk⟩:=QA (P:=X.prog) (w:=X.w) rel
 obtain ⟨z,hd,vs0,r0,dd⟩:=z0u I2.hok e
 cases r0
 refine ⟨rs,c,dd,fun h' dd' hs=>⟨.ref s.heap.objs.size,_,?_,rfl,q2⟩⟩
 have hz:(qz [] kvs).length≤sizeLine:=by
  have h1:=jl kvs []
  rw [List.length_nil] at h1
  rw [sizeLine_eq];lia
 have he:∃q,h'.get? s.heap.objs.size=some q:=let ⟨q,_,_,hq,_⟩:=dd';⟨q,hq⟩
 exact Zo I2 (by rw [e];exact True.intro) hs he (Qy hz hd (rk.merge .nil) dd')
structure M1 (X:Cx) (o:Expr) (m:Str) (apos:Pos) (e:Expr) (cpos:Pos):Prop where
 base:attributeBase o m X.env (eval o X.env)=eval o X.env
 few:((backTo cpos (starEach [e] X.env)).all (fun x=> !x.1)&&(backToKw cpos (keywordEach [] X.env)).all (fun x=>x.1.isSome)
  &&decide (([e]:List Expr).length+([]:List Keyword).length+(if ([]:List Keyword).isEmpty then 0 else 1) < 30))=true
 line:(apos.endLine == cpos.line)=true
 trees:backTo cpos (starEach [e] X.env)=[(false,eval e X.env)]
structure M2 (X:Cx) (o:Expr) (m:Str) (apos:Pos) (e f:Expr) (cpos:Pos):Prop where
 base:attributeBase o m X.env (eval o X.env)=eval o X.env
 few:((backTo cpos (starEach [e,f] X.env)).all (fun x=> !x.1)&&(backToKw cpos (keywordEach [] X.env)).all (fun x=>x.1.isSome)
  &&decide (([e,f]:List Expr).length+([]:List Keyword).length+(if ([]:List Keyword).isEmpty then 0 else 1) < 30))=true
 line:(apos.endLine == cpos.line)=true
 trees:backTo cpos (starEach [e,f] X.env)=[(false,eval e X.env),(false,eval f X.env)]
def IsD (H:Hp) (a:Addr):Prop:=(∃kvs,Rd H a (.dK kvs))∨∃kvs,Rd H a (.dT kvs)
theorem z2K {X:Cx} {pins:List (Addr × Obj)} {σ:St} {H:Hp} {s:Shared} {a:Addr} (I:Inv X pins σ H s) (d:IsD H a):
  s.TypeIs (.ref a) "dict"∧(∀b,Value.ref a=.ref b→∃ob,s.heap.get? b=some ob∧ob.dict=none)∧(a == sysModules)=false:=by
 rcases d with ⟨kvs,e⟩ | ⟨kvs,e⟩
 ·obtain ⟨_,hd,vs,_,dd⟩:=QW I.hok e
  refine ⟨dd.typeIs,fun b q=>?_,hd⟩
  cases q
  obtain ⟨ob,_,_,h1,h2,_⟩:=dd
  exact ⟨ob,h1,h2.2.1⟩
 ·obtain ⟨_,hd,xs,_,dd⟩:=z0t I.hok e
  refine ⟨dd.typeIs,fun b q=>?_,hd⟩
  cases q
  obtain ⟨ob,_,_,h1,h2,_⟩:=dd
  exact ⟨ob,h1,h2.2.1⟩
section
variable {X:Cx} {pins:List (Addr × Obj)} {σ:St} {H:Hp} {s:Shared} {a:Addr} {y d:V} {u r:Value} {o:Option V} {A:Around} {E:Value→Shared→Prop}
theorem z7F {Q:Value→Shared→Prop} (hu:A.units+1 < cLine) (I:Inv X pins σ H s) (g:DGet H a y o) (ry:RelV y u) (h:∀w' s',Inv X pins σ H s'→RelV (o.getD .non) w'→Q w' s'):
  wpAny (model X.prog X.w) A (call (.builtin "dict.get") [.ref a,u]) Q E s:=by
 rcases g with ⟨kvs,k,e,ey,l⟩ | ⟨kvs,k,b,e,ey,eb,l⟩
 ·subst ey
  obtain ⟨z,hd,vs,rel,dd⟩:=QW I.hok e
  refine call_meetsIn PySem.F.slot_dict_get dd.typeIs PySem.F.entry_dict_get (PySem.F.args_dict_get_2 _ _) (meets_dict_get (zK X.prog X.w) a (QS ry) hd) ⟨_,dd.mapOf,h _ _ (I.tok _) ?_⟩
  rw [l]
  exact (rel.val k).getD rfl
 ·subst ey
  cases (show u=Value.ref b from ry)
  obtain ⟨z,hd,xs,rel,dd⟩:=z0t I.hok e
  refine call_meetsIn PySem.F.slot_dict_get dd.typeIs PySem.F.entry_dict_get (PySem.F.args_dict_get_2 _ _) (meetsH_dict_get (tupleKind (zK X.prog X.w)) a b hd) ⟨tupleKind_room_in1 hu,k,xs,Qu I.hok eb,dd,h _ _ (I.tok _) ?_⟩
  rw [l]
  exact (rel.val k).getD rfl
end
def z6G (td ty:TE):TE:=fun σ H Q=>td σ H fun x H1=>∃a,x=.ref a∧IsD H1 a∧ty σ H1 fun y H2=>∃o,DGet H2 a y o∧Q (o.getD .non) H2
def z6E (td ty:TE):TE:=fun σ H Q=>td σ H fun x H1=>∃a,x=.ref a∧IsD H1 a∧ty σ H1 fun y H2=>∃kvs k v,H2 a=some (.dK kvs)∧y=kV k∧valV kvs k=some v∧Q v (upd H2 a (.dK (z1B kvs k)))
section
variable {X:Cx} {o e f:Expr} {apos cpos:Pos} {td ty tx:TE}
theorem z0Q (hu:X.A.units+1 < cLine) (ho:PE X o td) (he:PE X e ty) (m:M1 X o "get" apos e cpos):PE X (.Call (.Attribute o "get" apos) [e] [] cpos) (z6G td ty):=by
 intro pins s σ H Q I h
 refine wpAny_Call_method m.base m.few m.line PySem.F.plainAttrs_dict PySem.F.slot_dict_get PySem.F.type_dict_get (thn (ho pins s σ H _ I h) fun u s1 zz=>?_)
 obtain ⟨x,H1,I1,rx,a,ex,d,q1⟩:=zz
 subst ex
 obtain rfl:u=Value.ref a:=rx
 obtain ⟨t1,t2,_⟩:=z2K I1 d
 refine ⟨t1,t2,?_⟩
 rw [m.trees]
 refine Calls.callWith_builtin rfl (Calls.evalArgs_plain (Calls.spliced_cons (thn (he pins s1 σ H1 _ I1 q1) fun iv s2 ⟨y,H2,I2,ry,ov,g,q2⟩=>Calls.spliced_nil ?_)))
 exact z7F hu I2 g ry fun w' s3 I3 rw'=>⟨_,H2,I3,rw',q2⟩
theorem z3S (ho:PE X o td) (he:PE X e ty) (m:M1 X o "pop" apos e cpos):PE X (.Call (.Attribute o "pop" apos) [e] [] cpos) (z6E td ty):=by
 intro pins s σ H Q I h
 refine wpAny_Call_method m.base m.few m.line PySem.F.plainAttrs_dict PySem.F.slot_dict_pop PySem.F.type_dict_pop (thn (ho pins s σ H _ I h) fun u s1 zz=>?_)
 obtain ⟨x,H1,I1,rx,a,ex,d,q1⟩:=zz
 subst ex
 obtain rfl:u=Value.ref a:=rx
 obtain ⟨t1,t2,_⟩:=z2K I1 d
 refine ⟨t1,t2,?_⟩
 rw [m.trees]
 refine Calls.callWith_builtin rfl (Calls.evalArgs_plain (Calls.spliced_cons (thn (he pins s1 σ H1 _ I1 q1) fun iv s2 ⟨y,H2,I2,ry,kvs,k,v,ea,ey,l,q2⟩=>Calls.spliced_nil ?_)))
 subst ey
 exact z8E I2 ea ry l (.inl rfl) fun w' s3 I3 rw'=>⟨v,_,I3,rw',q2⟩
end
section
variable {X:Cx} {pins:List (Addr × Obj)} {σ:St} {H:Hp} {s:Shared} {a:Addr} {kvs:List (Key × V)} {A:Around} {E:Value→Shared→Prop}
theorem z4C {Q:Value→Shared→Prop} (I:Inv X pins σ H s) (e:Rd H a (.dK kvs)) (h:∀p s',H p=none→Inv X pins σ (upd H p (.dK kvs)) s'→Q (.ref p) s'):wpAny (model X.prog X.w) A (call (.type "dict") [.ref a]) Q E s:=by
 obtain ⟨z,hd,vs,rel,dd⟩:=QW I.hok e
 refine kt_call_dict hd dd (by rw [←rel.length];exact z) fun h' dd' hs=>?_
 refine h _ _ (I.hok.fresh (ke _)) (I.laid (a:=s.heap.objs.size) (o:=.dK kvs) (t':=s.toks) (fun b q hq=>?_) (ke _) (Qy z (beq_eq_false_iff_ne.mpr (Ne.symm (Nat.ne_of_lt I.big))) rel dd'))
 exact (hs.2 b (Nat.ne_of_lt (Heap.lt_size hq))).trans (Heap.get?_push_of_some _ hq)
end
section
variable {X:Cx} {pins:List (Addr × Obj)} {σ:St} {H:Hp} {s:Shared} {a:Addr} {y:V} {u:Value} {A:Around} {E:Value→Shared→Prop}
end
end L2
namespace Att
open PySem PySem.W PySem.Calls PyProof.Rows
theorem Q3 {P:Params} {h:Heap}:∀(ns:List Int) (vs:List Value),WellAll P h vs (ns.map WData.int)→IntsAre vs ns:=by
 intro ns
 induction ns with
 | nil=>
  intro vs w
  rw [List.map_nil] at w
  cases w
  exact .nil
 | cons n ns ih=>
  intro vs w
  rw [kS] at w
  cases w with
  | cons a b=>
   cases a
   exact .cons _ _ (ih _ b)
theorem z29 {l:OpenLaw} {n:Nat} (hn:l.most=some n) {P:Params} {h:Heap} {args:List WData} {vals:List Value}
  (hpre:l.row.toRowW.claim.pre args=true) (hwl:WellAll P h vals args):
  ∃a vs ns,vals=[Value.ref a]∧args=[WData.list (ns.map WData.int)]∧h.get? a=some { cls:=.type "list",data:=.seq vs.toArray }∧IntsAre vs ns∧ns.length≤n:=by
 have hsh:WShape.hasAll [] args [.list .int]=true:=(pre_splitW hpre).1
 have hc:l.pre.holds [] { args:=args }=true:=(pre_splitW hpre).2
 obtain ⟨d,r,rfl,h1,h2⟩:=hasAllW_cons hsh
 obtain rfl:=hasAllW_nil h2
 obtain ⟨xs,rfl,h3⟩:=hasW_list h1
 obtain ⟨ns,rfl⟩:=items_int h3
 have hlen:ns.length≤n:=by
  unfold OpenLaw.pre at hc
  have h4:(WTm.not (.lt (.lit (.int (n:Int))) (.len (.arg 0)))).holds [] { args:=[.list (ns.map .int)] }=true:=by
   have h4:=(holds_andW hc).1
   rw [hn] at h4
   exact h4
  have h5:=condW_of h4 (w_not (w_lt w_lit (w_len_list (w_arg rfl))))
  rw [kj] at h5
  refine Nat.le_of_not_lt fun q=>?_
  have q':(n:Int) < ((ns.length:Nat):Int):=by lia
  first
   | (rw [ki q'] at h5;exact absurd h5 (by decide))
   | (simp at h5;lia)
 cases hwl with
 | cons w1 w2=>
  cases w2
  cases w1 with
  | list ho hall=>exact ⟨_,_,ns,rfl,rfl,ho,Q3 ns _ hall,hlen⟩
theorem z2i (l:OpenLaw) (args:List WData):l.row.toRowW.claim.post args (.bool true) args=true:=
 postW_of (r:=l.row.toRowW) (X:=(true == true))
  (show WShape.has [] (.bool true) .bool=true by first | rfl | decide | simp [WShape.has,WShape.arms,WShape.armsAll])
  (show (WTm.eq .res (.lit (.bool true))).value [] { args:=args,res:=some (.bool true),after:=args }=some (.bool (true == true)) from w_eq_bool (w_res rfl) w_lit) rfl
theorem attach_call {l:OpenLaw} {n:Nat} {q:Program} {loose:List Str} {XP:(Str→Option Value)→Heap→Prop} {YP:World→Heap→Prop} {d:DefRec}
  (hn:l.most=some n) (hdf:d.params.defaults=[])
  (call:∀(w:World) (s₀ s₁:Shared) (mg mb:Str→Option Value) (fa:Addr) (o:Obj) (pm cd doc:Value) (a:Addr) (vs:List Value) (ns:List Int),
   Ground q loose [] XP w s₀ mg mb s₁.heap→YP w s₁.heap→
   s₁.heap.get? fa=some o→o.data=.func (docDef d.name d.params d.body d.scope pm cd doc)→s₁.heap.CodeRec cd d.name→mg d.name=some (.ref fa)→
   s₁.heap.get? a=some { cls:=.type "list",data:=.seq vs.toArray }→IntsAre vs ns→ns.length≤n→s₁.gens=#[]→
   codeAny (model l.prog w) callerA (.call (.ref fa) ⟨[.ref a],[]⟩) (fun r s'=>r=.ok (.ret (.bool true))∧OldK s₁.heap s'.heap∧s'.os=s₁.os∧AllBare s'.gens) s₁):
  WalkO q loose XP YP l.row.toRowW d [] (fun f vs=>PySem.call f vs):=by
 intro w s₀ s₁ mg mb G Y fa o pm cd doc dV kV ho hd hcd hD hmg hg args vals as hpre hlay hrd hwl hlo
 obtain rfl:dV=.none:=Dflts.none hD hdf
 obtain rfl:kV=.none:=Dflts.noKw hD
 obtain ⟨a,vs,ns,rfl,rfl,hobj,hints,hlen⟩:=z29 hn hpre hwl
 refine enter_call (codeAny_mono (call w s₀ s₁ mg mb fa o pm cd doc a vs ns G Y ho (fd_plain hd) hcd hmg hobj hints hlen hg) fun r s' hq=>?_)
 obtain ⟨rfl,h2,h3,h4⟩:=hq
 exact ⟨.inl ⟨.bool true,.bool true,[],rfl,fun _=>rfl,.bool true,z2i l _,fun _=>⟨List.Pairwise.nil,fun _ hm=>(nomatch hm)⟩⟩,h2,h3,h4⟩
section
variable {prog:Program} {w:World} {A:Around} {E:Value→Shared→Prop} {s:Shared} {K:Frag}
end
end Att
namespace L2
open PySem PySem.Spec PyProof.Rows
theorem J5:∀{vs:List Value} {ns:List Int},IntsAre vs ns→Vals (ns.map V.int) vs
 | _,_,.nil=>.nil
 | _,_,.cons n t h=>.cons ⟨t,rfl⟩ (J5 h)
def Only (H:Hp):Prop:=∀b,H b=none∨∃o xs,H b=some (.frz o (.lst xs))
theorem z43 {P:Program} {w:World} {K:ky} {mg mb:Str→Option Value} {CX:CXT} {k:Nat} {fa a:Addr} {fd:FuncData} {x:Str} {sp:Sp} {s₁:Shared} {vs:List Value} {ns:List Int}
  (KX:K.In s₁.heap) (hns:s₁.heap.Ns mainGlobals mg) (hb:s₁.heap.Ns builtinsNs mb) (hbb:∀x:Str,x≠"__name__"→mb x=bootBuiltins x) (hlim:s₁.heap.NoLimit) (hg:s₁.gens=#[])
  (ha:s₁.heap.get? a=some { cls:=.type "list",data:=.seq vs.toArray }) (hi:IntsAre vs ns) (hl:ns.length≤sizeLine) (hr:Room k callerA)
  (F:∀base:Heap,K.In base→base.Ns mainGlobals mg→FnOk P w K mg base CX k fa fd [x] sp) (hbind:∀(s:Shared) (u:Value),BindsTo s fd ⟨[u],[]⟩ [(x,u)])
  (hsp:∀H:Hp,Only H→SqL K H a (ns.map V.int)→sp [.ref a] H (fun v _=>v=.bl true) fun _ _ _=>False)
  (hCX:∀H e s',CX [] H s₁ (fun _ _ _=>False) e s'→False):
  codeAny (model P w) callerA (.call (.ref fa) ⟨[.ref a],[]⟩) (fun r s'=>r=.ok (.ret (.bool true))∧OldK s₁.heap s'.heap∧s'.os=s₁.os∧AllBare s'.gens) s₁:=by
 have rv:=J5 hi
 have lenV:=hi.length
 have core:∀H:Hp,Only H→SqL K H a (ns.map V.int)→HOk P w H s₁.heap→(∀b,H b≠none→b=a)→(H a≠none→K.lookup a=none)→
   codeAny (model P w) callerA (.call (.ref fa) ⟨[.ref a],[]⟩) (fun r s'=>r=.ok (.ret (.bool true))∧OldK s₁.heap s'.heap∧s'.os=s₁.os∧AllBare s'.gens) s₁:=by
  intro H hO hS hok hA hK
  have base_of:∀{b:Addr} {o:Obj},s₁.heap.get? b=some o→H b=none→(hidT s₁.heap H).get? b=some o:=fun e n=>z49 e n
  have noA:∀{b:Addr} {o:Obj} {es:Array DictEntry} {ep:Nat},s₁.heap.get? b=some o→o.data=.dict es ep→H b=none:=fun {b o es ep} e d=>by
   cases q:H b with
   | none=>rfl
   | some u=>
    have e':b=a:=hA b (by rw [q];simp)
    subst e'
    rw [ha] at e;cases e
    have d':Data.seq vs.toArray _=Data.dict es ep:=d
    cases d'
  have nsK:∀{b:Addr} {m:Str→Option Value},s₁.heap.Ns b m→(hidT s₁.heap H).Ns b m:=fun {b m} ⟨o,es,ep,e,d,r⟩=>⟨o,es,ep,base_of e (noA e d),d,r⟩
  have hKb:K.In (hidT s₁.heap H):=fun b o e=>base_of (KX b o e) (by
   cases q:H b with
   | none=>rfl
   | some u=>
    have e':b=a:=hA b (by rw [q];simp)
    subst e'
    rw [hK (by rw [q];simp)] at e;cases e)
  have hM:Mod K mg (hidT s₁.heap H):=⟨hKb,nsK hns,⟨mb,nsK hb,hbb⟩,let ⟨mc,h1,h2⟩:=hlim;⟨mc,nsK h1,h2⟩⟩
  have e0:Env0 P w K mg (hidT s₁.heap H) callerA [] s₁ H:=⟨rfl,hM,fun b o e=>z5z e,kX (z2M _ _),trivial,fun b hb=>absurd (show b∈([]:List Addr) from hb) (by simp),hok,.of_eq hg⟩
  refine codeAny_mono ((F _ hKb (nsK hns)).run callerA [] s₁ H ⟨[.ref a],[]⟩ [.ref a] [.ref a] _ _ hr e0 (hbind s₁ (.ref a)) (.cons rfl .nil) (hsp H hO hS)) fun r s' h=>?_
  cases r with
  | error e=>exact (hCX H e s' h).elim
  | ok fl=>
   cases fl with
   | next=>exact False.elim h
   | brk=>exact False.elim h
   | cont=>exact False.elim h
   | ret u=>
    obtain ⟨v,H',os,bare,un,hok',r',q⟩:=h
    have q':v=.bl true:=q
    subst q'
    obtain rfl:u=Value.bool true:=r'
    refine ⟨rfl,OldK.of_keep fun b o e=>?_,os,bare⟩
    cases q:H b with
    | none=>exact un.keep b o e q (by intro z;exact absurd (show b∈([]:List Addr) from z) (by simp)) (by simp)
    | some u=>
     rcases hO b with z | ⟨ob,xs,z⟩
     ·rw [q] at z;cases z
     ·have z2:=un.frzs b ob _ z
      obtain ⟨e1,_⟩:=hok b _ z
      obtain ⟨e2,_⟩:=hok' b _ z2
      rw [e] at e1;cases e1
      exact e2
 cases hk:K.lookup a with
 | some o=>
  have e:=KX a o hk
  rw [ha] at e
  cases e
  refine core (fun _=>none) (fun _=>.inl rfl) (.inr ⟨_,vs.toArray,_,hk,rfl,rfl,rfl,by rw [kE,lenV];exact hl,by simpa using rv⟩) (fun b u z=>by have z':(none:Option HO)=some u:=z;cases z') (fun b z=>absurd rfl z) fun z=>absurd rfl z
 | none=>
  refine core (fun b=>if b=a then some (.frz { cls:=.type "list",data:=.seq vs.toArray } (.lst (ns.map V.int))) else none) (fun b=>?_) (.inl (.inr ⟨{ cls:=.type "list",data:=.seq vs.toArray },kA rfl⟩)) (fun b u z=>?_) (fun b z=>?_) fun _=>hk
  ·by_cases hb:b=a
   ·exact .inr ⟨_,_,kA hb⟩
   ·exact .inl (kz hb)
  ·by_cases hb:b=a
   ·have z':=(kA hb).symm.trans z
    cases z'
    subst hb
    exact ⟨ha,by rw [kj];exact hl,vs,_,rv,ha⟩
   ·have z':=(kz hb).symm.trans z
    cases z'
  ·by_cases hb:b=a
   ·exact hb
   ·exact absurd (kz hb) z
end L2
namespace L2
open PySem PySem.Spec PyProof.Rows
theorem z56 {l:PySem.W.OpenLaw} {n k:Nat} {q:Program} {loose:List Str} {XP:(Str→Option Value)→Heap→Prop} {YP:World→Heap→Prop} {d:DefRec} {K:Params→ky} {CX:World→CXT} {sp:World→Sp} {x:Str}
  (hn:l.most=some n) (hn2:n≤sizeLine) (hdf:d.params.defaults=[]) (hr:Room k callerA)
  (hY:∀(w:World) (h:Heap),YP w h→(K w.params).In h)
  (F:∀(w:World) (mg:Str→Option Value) (fa:Addr) (h:Heap),(K w.params).In h→h.Ns mainGlobals mg→mg d.name=some (.ref fa)→
   ∃fd:FuncData,(∀(s:Shared) (u:Value),BindsTo s fd ⟨[u],[]⟩ [(x,u)])∧
    ∀base:Heap,(K w.params).In base→base.Ns mainGlobals mg→FnOk l.prog w (K w.params) mg base (CX w) k fa fd [x] (sp w))
  (hsp:∀(w:World) (H:Hp) (a:Addr) (ns:List Int),ns.length≤n→Only H→SqL (K w.params) H a (ns.map V.int)→sp w [.ref a] H (fun v _=>v=.bl true) fun _ _ _=>False)
  (hCX:∀(w:World) (H:Hp) (s:Shared) (e:Value) (s':Shared),CX w [] H s (fun _ _ _=>False) e s'→False):
  PySem.W.WalkO q loose XP YP l.row.toRowW d [] (fun f vs=>PySem.call f vs):=by
 refine Att.attach_call hn hdf fun w s₀ s₁ mg mb fa o pm cd doc a vs ns G Y ho hd hcd hmg hobj hints hlen hg=>?_
 have KX:=hY w _ Y
 obtain ⟨fd,hb,hF⟩:=F w mg fa _ KX G.T.g hmg
 exact z43 KX G.T.g G.T.b G.T.builtins G.T.nolimit hg hobj hints (ku hlen hn2) hr hF hb (fun H hO hS=>hsp w H a ns hlen hO hS) fun H e s'=>hCX w H s₁ e s'
end L2
namespace L2
open PySem PySem.Spec PyProof.Rows
noncomputable def qx (s:Stmt):Arguments:=match s with
 | .FunctionDef _ a _ _ _ _ _ _ _ _=>a
 | _=>{ posonlyargs:=[],args:=[],vararg:=none,kwonlyargs:=[],kw_defaults:=[],kwarg:=none,defaults:=[] }
noncomputable def zE (s:Stmt):List Stmt:=match s with
 | .FunctionDef _ _ b _ _ _ _ _ _ _=>b
 | _=>[]
noncomputable def zd (s:Stmt):Scope:=match s with
 | .FunctionDef _ _ _ _ _ _ sc _ _ _=>sc
 | _=>{ kind:=.function,names:=[],isGenerator:=false,isCoroutine:=false }
abbrev CX0:CXT:=fun _ _ _ _ _ _=>False
abbrev E0:XK:=fun _ _ _=>False
theorem z2r {X:Cx}:Zy CX0 X E0:=fun _ _ _ _ _ _ _ h=>h.elim
structure Fun (K:ky) (x qual:Str) (st:Stmt) (f:Addr) (fd:FuncData):Prop where
 ex:∃(oc:Value) (od:Option Addr) (kV doc pm:Value) (an:Option Addr) (cdv ct:Value) (osl:Array (Option Value)),
  fd=PySem.W.fnOf x qual (qx st) (zE st) (zd st) .none kV doc pm an cdv ct∧K.lookup f=some ⟨oc,od,.func fd,osl⟩∧PySem.W.codeIn K cdv qual=true
 kp:PySem.W.keepIn K (.ref f)=true
section
variable {P:Program} {w:World} {K:ky} {mg:Str→Option Value} {base:Heap}
theorem Fun.ok {x qual:Str} {st:Stmt} {f:Addr} {fd:FuncData} {N ps:List Str} {k:Nat} {sp:Sp} (F:Fun K x qual st f fd) (S:zj N ps (zd st)) (len:∀vs H Q E,sp vs H Q E→vs.length=ps.length)
  (hbody:∀(cdv:Value) (A:Around) (outer:List Env) (s:Shared) (H:Hp) (vs:List V) (Q:VK) (E:XK),Room k (A.deeper (envOfC qual (zd st) s.heap.objs.size f cdv))→sp vs H Q E→
   ∃t,PSs (cxOf CX0 P w K mg base N qual (zd st) f cdv A outer s H E).nox (zE st) t∧t { nx:=fun _ H'=>Q .non H',rt:=Q } (qT N vs) H):FnOk P w K mg base CX0 (k+1) f fd ps sp:=by
 obtain ⟨oc,od,kV,doc,pm,an,cdv,ct,osl,rfl,lk,hcd⟩:=F.ex
 refine z5Y lk hcd S len fun A outer s H vs Q E hr hsp=>?_
 obtain ⟨t,h,q⟩:=hbody cdv A outer s H vs Q E hr hsp
 exact ⟨t,h.nox,q⟩
theorem Fun.binds {x qual:Str} {st:Stmt} {f:Addr} {fd:FuncData} {ps:List Str} (F:Fun K x qual st f fd)
  (h:∀(kV doc pm:Value) (an:Option Addr) (cdv ct:Value) (us:List Value),us.length=ps.length→bindArgs (PySem.W.fnOf x qual (qx st) (zE st) (zd st) .none kV doc pm an cdv ct) ⟨us,[]⟩=pure (ps.zip us)):jG K fd ps []:=by
 obtain ⟨oc,od,kV,doc,pm,an,cdv,ct,osl,rfl,lk,hcd⟩:=F.ex
 exact .all (h kV doc pm an cdv ct)
theorem z0Z {x qual:Str} {st:Stmt} {f:Addr} {oc:Value} {od an:Option Addr} {osl:Array (Option Value)} {kV doc pm cdv ct:Value} (l:K.lookup f=some ⟨oc,od,.func (PySem.W.fnOf x qual (qx st) (zE st) (zd st) .none kV doc pm an cdv ct),osl⟩)
  (c:PySem.W.codeIn K cdv qual=true) (k:PySem.W.keepIn K (.ref f)=true):Fun K x qual st f (PySem.W.fnOf x qual (qx st) (zE st) (zd st) .none kV doc pm an cdv ct):=⟨⟨oc,od,kV,doc,pm,an,cdv,ct,osl,rfl,l,c⟩,k⟩
end
theorem Zl {A:Around} {k:Nat} (hr:Room k A):A.units+1 < cLine:=Nat.lt_of_le_of_lt (Nat.add_le_add_left (by decide:1≤64) _) hr.units
theorem zV {n:Nat} (h:n≤1000):n < sizeLine:=Nat.lt_of_le_of_lt h (by decide)
section
variable {X:Cx}
theorem pv (i:Nat) {x:Str} {pos:Pos} (hN:autoParam (X.N[i]?=some x) aR._auto_1) (hv:Vis X.env.scope x:=by first | exact Or.inl rfl | exact Or.inr (Or.inl rfl) | exact Or.inr (Or.inr rfl)) (hd:autoParam ((x == ("__debug__":Str))=false) aR._auto_2)
  (hcd:autoParam ((x == ("__classdict__":Str))=false) aR._auto_2):PE X (.Name x pos) (tVar i):=z71 hN hv hd hcd
theorem Q7:jt X (.builtin "len") (fun xs H Q=>∃a kvs,xs=[V.ref a]∧H a=some (.dK kvs)∧Q (.int kvs.length) H):=by
 intro pins s σ H xs us Q I r h
 obtain ⟨a,kvs,rfl,ha,q⟩:=h
 obtain ⟨u,rfl,ru⟩:=ZO r
 cases ru
 exact z8F I (.inl ha) fun t s' I'=>⟨.int kvs.length,H,I',⟨t,rfl⟩,q⟩
end
theorem iteF {A B:Prop} (h:B):if false=true then A else B:=by
 rw [kz ka]
 exact h
theorem iteT {A B:Prop} (h:A):if true=true then A else B:=by
 rw [kA rfl]
 exact h
theorem ite2 {c A B:Prop} [Decidable c] (h1:c→A) (h2:¬c→B):if c then A else B:=by
 by_cases h:c
 ·rw [kA h]
  exact h1 h
 ·rw [kz h]
  exact h2 h
def Same (H H':Hp):Prop:=∀b o,H b=some o→H' b=some o
theorem Same.refl (H:Hp):Same H H:=fun _ _ h=>h
theorem Same.trans {H H1 H2:Hp} (a:Same H H1) (b:Same H1 H2):Same H H2:=fun c o h=>b c o (a c o h)
theorem Same.free {H H':Hp} (e:Same H H') {l:Addr} (h:H' l=Option.none):H l=Option.none:=by
 cases q:H l with
 | none=>rfl
 | some o=>
  rw [e l o q] at h
  cases h
theorem Same.seq {K:ky} {H H':Hp} {a:Addr} {xs:List V} (e:Same H H') (h:SqL K H a xs):SqL K H' a xs:=by
 rcases h with (h | ⟨o,h⟩) | h
 ·exact .inl (.inl (e _ _ h))
 ·exact .inl (.inr ⟨o,e _ _ h⟩)
 ·exact .inr h
section
variable {κ:Type} [DecidableEq κ]
end
end L2
set_option genInjectivity false
set_option maxRecDepth 100000
set_option maxHeartbeats 4000000
namespace L2
open PySem PySem.Spec PyProof.Rows
theorem Jt {names:List (Str × NameKind)} {k:NameKind} (h:∀y∈names,y.2≠k) (x:Str):names.lookup x≠some k:=fun e=>h _ (PySem.mem_of_lookup e) rfl
theorem z1f {scope:Scope} {env:Env} (h:∀y∈scope.names,y.2≠.free):relabel scope env=scope:=by
 unfold relabel
 rw [map_eq_self (l:=scope.names) (fun x hx=>by
  obtain ⟨n,k⟩:=x
  have:(k == NameKind.free)=false:=by simpa using h _ hx
  simp [this])]
section
variable {X:Cx}
def z3x (i:Nat) (te:TE):TS:=fun D σ H=>te σ H fun v H1=>D.nx (σ.set i (some v)) H1
end
end L2
namespace L2
open PySem PySem.Spec PyProof.Rows
theorem Inv.turned2 {X:Cx} {pins:List (Addr × Obj)} {σ:St} {H:Hp} {s:Shared} {h':Heap} {t':Nat} {e it:Addr} {xs:List V} (I:Inv X pins σ H s) (k:∀b o,b≠e→b≠it→s.heap.get? b=some o→h'.get? b=some o)
  (there:∀b∈[e,it],∃o,h'.get? b=some o) (fe:FpOk X pins H e) (fi:FpOk X pins H it) (new:zZ X.prog X.w (upd H s.heap.objs.size (.tup xs)) h' s.heap.objs.size (.tup xs)):
  Inv X pins σ (upd H s.heap.objs.size (.tup xs)) { s with heap:=h',toks:=t' }:=by
 have hn:=I.fresh
 have nit:∀b u,H b=some u→b≠e∧b≠it:=fun b u q=>⟨(fun z=>by rw [z,fe.1] at q;cases q),(fun z=>by rw [z,fi.1] at q;cases q)⟩
 have hm:∀{b:Addr},b∉[e,it]→b≠e∧b≠it:=fun {b} hb=>⟨fun z=>hb (by simp [z]),fun z=>hb (by simp [z])⟩
 refine I.step (g':=s.gens) (d':=s.drawn) (ch:=[e,it]) (fun b hb=>?_) (fun b o _ _ hc q _=>k b o (hm hc).1 (hm hc).2 q) (fun b o _ _ hc q _=>⟨o.slots,k b o (hm hc).1 (hm hc).2 q⟩) (fun b o _ q n=>?_)
  (fun b o hc q=>⟨o,k b o (hm hc).1 (hm hc).2 q⟩) (fun b xs q=>by rw [ze (zc q hn)];exact q) (fun b o u q=>by rw [ze (zc q hn)];exact q) (fun b ps q=>⟨#[],by rw [ze (zc q hn),q];simp⟩) (fun m hm'=>?_) (fun b u q=>?_) I.bare
 ·rcases kD.mp hb with z | z
  ·subst z;exact ⟨fe.2.2.2.1,fe.2.1,fe.2.2.2.2.1,fe.2.2.2.2.2⟩
  ·have z:b=it:=by simpa using z
   subst z;exact ⟨fi.2.2.2.1,fi.2.1,fi.2.2.2.2.1,fi.2.2.2.2.2⟩
 ·rw [ze (Nat.ne_of_lt (Heap.lt_size q))];exact n
 ·obtain ⟨o,es,ep,ho,r⟩:=hm'
  exact ⟨o,es,ep,k _ o (Ne.symm fe.2.1) (Ne.symm fi.2.1) ho,r⟩
 ·by_cases hb:b=s.heap.objs.size
  ·subst hb;rw [z7] at q;cases q;exact new
  ·rw [ze hb] at q
   refine (I.hok b u q).stay (fun c v hc z=>?_) (fun c z=>by rw [ze (zc z hn)];exact z) fun c xs z=>by rw [ze (zc z hn)];exact z
   rcases hc with y | y
   ·subst y;exact k c v (nit c u q).1 (nit c u q).2 z
   ·exact k c v (nit c _ y).1 (nit c _ y).2 z
noncomputable def Ite (K:ky) (a:Addr):It:=
 ⟨fun i H=>∃xs x,SqL K H a xs∧xs[i]?=some x,fun i H x H'=>∃p y,x=.ref p∧H p=none∧H'=upd H p (.tup [.int i,y])∧∀xs,SqL K H a xs→xs[i]?=some y,fun i H=>∃xs,SqL K H a xs∧xs.length≤i⟩
theorem z1Q {P:Program} {w:World} {K:ky} {elts:List Expr} {x1} {pos:Pos} (a e it:Addr) (hei:e≠it):Turn P w K (.Tuple elts x1 pos) (Ite K a) [e,it] e (fun i h=>(∃old,IsEnum h e it i old)∧h.IsListIter it a i) where
 mem:=by simp
 obj:=fun i h st b hb=>by
  rcases kD.mp hb with z | z
  ·subst z
   obtain ⟨old,q⟩:=st.1
   exact ⟨_,q,fun v y=>by cases y⟩
  ·have z:b=it:=by simpa using z
   subst z
   obtain ⟨o,q,c,d⟩:=st.2
   exact ⟨o,q,fun v z=>by rw [d] at z;cases z⟩
 keep:=fun i h h' st k=>⟨let ⟨old,q⟩:=st.1;⟨old,k e (by simp) _ q⟩,st.2.at fun o q=>k it (by simp) o q⟩
 item:=by
  intro X hP hw hK hc i pins s σ H E I hf st hg
  subst hP hw hK
  obtain ⟨xs,x,hq,hx⟩:=hg
  obtain ⟨its,rv,p,hz⟩:=I.list hq
  obtain ⟨u,hu,ru⟩:=rv.get hx
  obtain ⟨⟨old,he⟩,hit⟩:=st
  have fe:=hf e (by simp)
  have fi:=hf it (by simp)
  refine wpAny_pyNext_enum_item he hit p.isList (x:=u) (by simpa using hu) hei fun h' ho hit' hT hsz hk=>?_
  refine ⟨_,rfl,?_⟩
  have new:zZ X.prog X.w (upd H s.heap.objs.size (.tup [.int i,x])) h' s.heap.objs.size (.tup [.int i,x]):=⟨by show 2≤sizeLine;decide,[.int i s.toks,u],.cons ⟨_,rfl⟩ (.cons ru .nil),_,hT,rfl,_,rfl⟩
  obtain ⟨oi,ei,_⟩:=id hit'
  have I1:Inv X pins σ (upd H s.heap.objs.size (.tup [.int i,x])) { s with heap:=h',toks:=s.toks+1 }:=I.turned2 hk (fun b hb=>by
   rcases kD.mp hb with z | z
   ·subst z;exact ⟨_,ho⟩
   ·have z:b=it:=by simpa using z
    subst z;exact ⟨_,ei⟩) fe fi new
  have ne1:e≠s.heap.objs.size:=Nat.ne_of_lt (Heap.lt_size he)
  have ne2:it≠s.heap.objs.size:=by obtain ⟨o2,e2,_⟩:=hit;exact Nat.ne_of_lt (Heap.lt_size e2)
  refine wpAny_letOwnedTupleGo_enum (s:={ s with heap:=h',toks:=s.toks+1 }) ho fun h2 he2 hs2=>?_
  have he2':IsEnum h2 e it (((i+1:Nat)):Int) u:=by simpa using he2
  refine ⟨.ref s.heap.objs.size,_,I1.turned (t':=s.toks+1) (it:=e) (fun b o hb q=>(hs2.2 b hb).trans q) (by rw [ze ne1];exact fe.1) fe.2.1 fe.2.2.2.1 fe.2.2.2.2.1 fe.2.2.2.2.2,rfl,⟨_,x,rfl,I.fresh,rfl,fun ys hy=>by rw [I.list_inj hy hq];exact hx⟩,⟨⟨u,he2'⟩,hit'.at fun o q=>(hs2.2 it hei.symm).trans q⟩,fun b hb=>?_⟩
  rcases kD.mp hb with z | z
  ·subst z;rw [ze ne1];exact fe.1
  ·have z:b=it:=by simpa using z
   subst z;rw [ze ne2];exact fi.1
 done:=by
  intro X hP hw hK hc i pins s σ H E I hf st hg
  subst hP hw hK
  obtain ⟨xs,hq,hx⟩:=hg
  obtain ⟨its,rv,p,hz⟩:=I.list hq
  obtain ⟨⟨old,he⟩,hit⟩:=st
  obtain ⟨f0,f1,f2,f3,f4,f5⟩:=hf it (by simp)
  have hl:=rv.length
  exact wpAny_pyNext_enum_end (I.ok.hd hc) he hit p.isList (by simp;lia) fun h' eb=>⟨rfl,I.turned (t':=s.toks) (fun b o hb e=>eb b o hb e) f0 f1 f3 f4 f5⟩
 self:=fun _ _ _ _ _ st h=>let ⟨old,he⟩:=st.1;wpAny_pyIter_enum he h
section
variable {X:Cx}
def z8p (K:ky) (ta:TA):TI:=fun σ H R=>ta σ H fun vs H1=>∃a,vs=[.ref a]∧(∃xs,SqL K H1 a xs)∧R (Ite K a) H1
theorem z2l {a:Expr} {ta:TA} {p pos:Pos} {elts:List Expr} {x1} {tp:Pos} (hg:Gl X "enumerate") (hm:X.mg "enumerate"=none) (ha:PA X [a] ta) (hs:autoParam (starEach [a] X.env=[(false,eval a X.env)]) aR._auto_1):PI X (.Tuple elts x1 tp) (.Call (.Name "enumerate" p) [a] [] pos) (z8p X.K ta):=by
 intro pins s σ H R I h
 refine Call_ (Qt I hg hm boot_enumerate (PyProof.Rows.callWith_type1 (thn (ha pos pins s σ H _ I h) fun us s1 ⟨vs,H1,I1,r1,q1⟩=>?_) hs rfl))
 obtain ⟨l,e,⟨xs,hq⟩,q⟩:=q1
 subst e
 cases r1 with
 | cons r rr=>
  cases rr
  cases r
  obtain ⟨its,rv,p,hz⟩:=I1.list hq
  refine call_enumerate_list p.isList fun h' he hit hsz hk=>?_
  refine wpAny_pyIter_enum (s:={ s1 with heap:=h' }) he ?_
  have I2:Inv X pins σ H1 { s1 with heap:=h' }:=I1.kept (t':=s1.toks) hk
  have n0:H1 s1.heap.objs.size=none:=I1.fresh
  have n1:H1 (s1.heap.objs.size+1)=none:=I1.hok.fresh (Nat.le_succ _)
  refine ⟨s1.heap.objs.size+1,[s1.heap.objs.size+1,s1.heap.objs.size],_,_,H1,rfl,I2,z1Q l _ _ (Nat.succ_ne_self _),⟨⟨_,he⟩,hit⟩,fun b hb=>?_,q⟩
  rcases kD.mp hb with z | z
  ·subst z;exact I1.fpOk (Nat.le_succ _) n1
  ·have z:b=s1.heap.objs.size:=by simpa using z
   subst z;exact I1.fpOk (ke _) n0
end
theorem z10 {K:ky} {a:Addr} {xs:List V} {g:TG} {tb:TS} {D:Ends} {σ:St} {H:Hp} (Pv:Nat→St→Hp→Prop) (h0:Pv 0 σ H) (hl:∀i σ H,i≤xs.length→Pv i σ H→SqL K H a xs)
  (hs:∀(i:Nat) x σ H p,xs[i]?=some x→Pv i σ H→H p=none→g (.ref p) σ (upd H p (.tup [.int i,x])) fun σ2 H2=>tb { D with nx:=Pv (i+1),ct:=Pv (i+1),bk:=D.nx } σ2 H2) (hd:∀σ H,Pv xs.length σ H→D.nx σ H):
  ∃W:Nat→Nat→St→Hp→Prop,(∃m,W 0 m σ H)∧∀i m σ H,W i m σ H→
   ((Ite K a).stop i H∧D.nx σ H)∨((Ite K a).go i H∧∃N:St→Hp→Prop,(∀σ' H',N σ' H'→∃m',m' < m∧W (i+1) m' σ' H')∧∀x H',(Ite K a).yld i H x H'→g x σ H' fun σ2 H2=>tb { D with nx:=N,ct:=N,bk:=D.nx } σ2 H2):=by
 refine ⟨fun i m σ H=>m=xs.length - i∧i≤xs.length∧Pv i σ H,⟨xs.length,by simp,Nat.zero_le _,h0⟩,?_⟩
 rintro i m σ H ⟨rfl,hi,p⟩
 have q:=hl i σ H hi p
 by_cases hlt:i < xs.length
 ·refine .inr ⟨⟨xs,xs[i],q,by simp [hlt]⟩,Pv (i+1),fun σ' H' p'=>⟨xs.length - (i+1),by lia,rfl,hlt,p'⟩,fun x H' y=>?_⟩
  obtain ⟨p',y',rfl,hn,rfl,y⟩:=y
  exact hs i y' σ _ p' (y xs q) p hn
 ·have e:i=xs.length:=by lia
  subst e
  exact .inl ⟨⟨xs,q,ke _⟩,hd σ H p⟩
end L2
namespace L2
open PySem PySem.Spec PyProof.Rows
section
variable {X:Cx}
def rS0 (f:Str→V):V→List V→Hp→VK→Prop:=fun x vs H Q=>∃z,x=.str z∧vs=[]∧Q (f z) H
theorem Qq:MtM X "str.isascii" (rS0 fun z=>.bl (Txt.isascii z)):=by
 intro pins s σ H x vs v us Q I rx rv h
 obtain ⟨z,rfl,rfl,q⟩:=h
 obtain ⟨t,rfl⟩:=rx
 cases rv
 exact SC.isascii ⟨.bl _,H,I,rfl,q⟩
theorem Qr:MtM X "str.isalpha" (rS0 fun z=>.bl (Txt.isalpha z)):=by
 intro pins s σ H x vs v us Q I rx rv h
 obtain ⟨z,rfl,rfl,q⟩:=h
 obtain ⟨t,rfl⟩:=rx
 cases rv
 exact SC.isalpha ⟨.bl _,H,I,rfl,q⟩
theorem z1i:MtM X "str.islower" (rS0 fun z=>.bl (Txt.islower z)):=by
 intro pins s σ H x vs v us Q I rx rv h
 obtain ⟨z,rfl,rfl,q⟩:=h
 obtain ⟨t,rfl⟩:=rx
 cases rv
 exact SC.islower ⟨.bl _,H,I,rfl,q⟩
inductive FmtR:V→Str→Prop where
 | int (i:Int) (h:i.natAbs.log2 < 1920):FmtR (.int i) (toString i)
 | str (z:Str) (h:z.length≤sizeLine):FmtR (.str z) z
 | bl (b:Bool):FmtR (.bl b) (if b then "True" else "False")
 | non:FmtR .non "None"
def tFmt (t:TE):TE:=fun σ H Q=>t σ H fun x H1=>∃y,FmtR x y∧Q (.str y) H1
theorem z72 {value:Expr} {pos:Pos} {t:TE} (h:PE X value t):PE X (.FormattedValue value (-1) none pos) (tFmt t):=by
 intro pins s σ H Q I hq
 refine wpAny_FormattedValue_plain (thn (h pins s σ H _ I hq) fun v s1 zz=>?_)
 obtain ⟨x,H1,I1,r1,y,e,q⟩:=zz
 cases e with
 | int i hi=>
  obtain ⟨t,rfl⟩:=r1
  exact wpAny_formatField_int hi ⟨.str _,H1,I1.tok _,⟨_,rfl⟩,q⟩
 | str z hz=>
  obtain ⟨t,rfl⟩:=r1
  exact PyProof.Rows.formatField_str (fun t' k=>⟨.str _,H1,I1.tok _,⟨_,rfl⟩,q⟩) hz
 | bl b=>
  cases r1
  exact wpAny_formatField_bool ⟨.str _,H1,I1.tok _,⟨_,rfl⟩,q⟩
 | non=>
  cases r1
  exact wpAny_formatField_none ⟨.str _,H1,I1.tok _,⟨_,rfl⟩,q⟩
inductive PEs (X:Cx):List Expr→List TE→Prop where
 | nil:PEs X [] []
 | cons {e:Expr} {es:List Expr} {t:TE} {ts:List TE}:PE X e t→PEs X es ts→PEs X (e :: es) (t :: ts)
def z5a:List TE→Str→TE
 | [],acc=>fun _ H Q=>acc.length≤sizeLine∧Q (.str acc) H
 | t :: ts,acc=>fun σ H Q=>t σ H fun x H1=>∃y,x=.str y∧(acc++y).length≤sizeLine∧z5a ts (acc++y) σ H1 Q
theorem z45 {es:List Expr} {ts:List TE} (h:PEs X es ts):∀(acc:Str) (pins:List (Addr × Obj)) (s:Shared) (σ:St) (H:Hp) (Q:VK),Inv X pins σ H s→z5a ts acc σ H Q→
  Joins (model X.prog X.w) X.A X.xe (evalEach es X.env) acc (fun out s₁=>out.length≤sizeLine∧EP X pins σ Q (.str out s₁.toks) { s₁ with toks:=s₁.toks+1 }) s:=by
 induction h with
 | nil=>exact fun acc pins s σ H Q I q=>⟨q.1,.str _,H,I.tok _,⟨_,rfl⟩,q.2⟩
 | cons he _ ih=>
  intro acc pins s σ H Q I q
  show wpAny _ _ _ _ _ _
  refine thn (he pins s σ H _ I q) fun v s1 zz=>?_
  obtain ⟨x,H1,I1,r1,y,e,hz,q1⟩:=zz
  subst e
  obtain ⟨t,rfl⟩:=r1
  exact ⟨y,t,rfl,hz,ih _ pins s1 σ H1 Q I1 q1⟩
theorem z5t {v₁ v₂:Expr} {rest:List Expr} {pos:Pos} {ts:List TE} (h:PEs X (v₁ :: v₂ :: rest) ts):PE X (.JoinedStr (v₁ :: v₂ :: rest) pos) (z5a ts Str.empty):=fun pins s σ H Q I hq=>
 wpAny_JoinedStr (z45 h Str.empty pins s σ H Q I hq)
theorem zy:jt X (.builtin "isinstance") (fun xs H Q=>∃x T t b,xs=[x,.ty T]∧TyOf X.K H x t∧PySem.W.kitOne X.K t (.type T)=some b∧Q (.bl b) H):=by
 intro pins s σ H xs us Q I r h
 obtain ⟨x,T,t,b,rfl,ty,e,q⟩:=h
 obtain ⟨u,u2,rfl,ru,r2⟩:=z1N r
 cases r2
 exact z2J I ru ty e fun tk=>⟨.bl b,H,I.tok tk,rfl,q⟩
theorem z4Z:OpR X (compareOp .Is) (fun x y H Q=>∃b,y=.bl b∧Q (.bl (decide (x=.bl b))) H):=by
 intro pins s σ H x y v u Q I rx ry h
 obtain ⟨b,rfl,q⟩:=h
 cases ry
 cases x with
 | non=>cases rx;exact PySem.wpAny_is_plain rfl (zI I q (by cases b <;> rfl))
 | bl c=>cases rx;exact PySem.wpAny_is_plain rfl (zI I q (by cases b <;> cases c <;> rfl))
 | int i=>obtain ⟨t,rfl⟩:=rx;exact PySem.wpAny_is_plain rfl (zI I q rfl)
 | str z=>obtain ⟨t,rfl⟩:=rx;exact PySem.wpAny_is_plain rfl (zI I q rfl)
 | byt z=>obtain ⟨t,rfl⟩:=rx;exact PySem.wpAny_is_plain rfl (zI I q rfl)
 | flt z=>obtain ⟨t,rfl⟩:=rx;exact PySem.wpAny_is_plain rfl (zI I q rfl)
 | ref a=>cases rx;exact PySem.wpAny_is_plain rfl (zI I q rfl)
 | ty n=>cases rx;exact PySem.wpAny_is_plain rfl (zI I q rfl)
end
end L2
namespace L2
open PySem PySem.Spec PyProof.Rows
def KTab (P:Params) (K:ky) (d:Addr) (tab:List (Str × V)):Prop:=
 ∃es n,K.lookup d=some ⟨.type "dict",none,.dict es n,#[]⟩∧PySem.W.KeysLit P es.toList∧(d == sysModules)=false∧Paired (fun (p:Str × V) (e:DictEntry)=>(∃t,e.key=.str p.1 t)∧RelV p.2 e.val) tab es.toList
theorem Jx {x:Str}:∀{tab:List (Str × V)} {es:List DictEntry},Paired (fun (p:Str × V) (e:DictEntry)=>(∃t,e.key=.str p.1 t)∧RelV p.2 e.val) tab es→
  RelO (tab.lookup x) ((es.find? fun e=>Value.isStrOf x e.key).map (·.val))
 | _,_,.nil=>trivial
 | (k,v) :: tab,e :: es,.cons ⟨⟨t,hk⟩,hv⟩ r=>by
  have ih:=Jx (x:=x) r
  by_cases hx:x=k
  ·subst hx
   have h1:((x,v) :: tab).lookup x=some v:=by simp [List.lookup]
   have h2:(e :: es).find? (fun e=>Value.isStrOf x e.key)=some e:=by
    rw [List.find?_cons,hk]
    simp [Value.isStrOf]
   rw [h1,h2]
   exact hv
  ·have h1:((k,v) :: tab).lookup x=tab.lookup x:=by
    rw [List.lookup_cons]
    have:(x == k)=false:=by simpa using hx
    rw [this]
   have h2:(e :: es).find? (fun e=>Value.isStrOf x e.key)=es.find? (fun e=>Value.isStrOf x e.key):=by
    rw [List.find?_cons,hk]
    have:Value.isStrOf x (Value.str k t)=false:=by simpa [Value.isStrOf] using fun z=>hx z.symm
    rw [this]
   rw [h1,h2]
   exact ih
section
variable {X:Cx}
theorem QR {P:Params} {K:ky} {prog:Program} {w:World} {h:Heap} {d:Addr} {tab:List (Str × V)} (hP:P=w.params) (t:KTab P K d tab) (kin:K.In h):
  ∃f,h.MapOf (strKind prog w) d f∧(d == sysModules)=false∧∀x,RelO (tab.lookup x) (f x):=by
 subst hP
 obtain ⟨es,n,hl,hk,hd,hp⟩:=t
 refine ⟨_,PySem.W.mapOf_K (prog:=prog) kin hl hk,hd,fun x=>?_⟩
 have q:=Jx (x:=x) hp
 show RelO _ (findBy Value.isStrOf es x)
 unfold findBy
 rw [←Array.find?_toList]
 exact q
def z7U (tab:List (Str × V)) (ty:TE):TE:=fun σ H Q=>ty σ H fun y H1=>∃x v,y=.str x∧tab.lookup x=some v∧Q v H1
theorem QK {nm:Str} {i:Expr} {p pos:Pos} {d:Addr} {tab:List (Str × V)} {ty:TE} (T:KTab X.w.params X.K d tab) (hg:Gl X nm) (hm:X.mg nm=some (.ref d)) (hi:PE X i ty) (hs:NoSl i) (hd:autoParam ((nm == ("__debug__":Str))=false) aR._auto_2):
  PE X (.Subscript (.Name nm p) i pos) (z7U tab ty):=by
 intro pins s σ H Q I h
 refine z1R PySem.F.slot_dict_getitem.lookup hs (jm I hg hm (thn (hi pins s σ H _ I h) fun iv s2 ⟨y,H2,I2,ry,x,v,ex,l,q⟩=>?_) hd)
 subst ex
 obtain ⟨t,rfl⟩:=ry
 obtain ⟨f,mo,_,hf⟩:=QR (prog:=X.prog) (w:=X.w) rfl T I2.kIn
 have hf:=hf x
 rw [l] at hf
 obtain ⟨w',e',rw'⟩:=RelO.some_of hf
 exact ⟨mo.typeIs,wpAny_getItem_of (strKind_is X.prog X.w x t) mo e' ⟨v,H2,I2.tok _,rw',q⟩⟩
def tKIn (tab:List (Str × V)) (ty:TE):TE:=fun σ H Q=>ty σ H fun y H1=>∃x,y=.str x∧Q (.bl (tab.lookup x).isSome) H1
theorem z73 {nm:Str} {i:Expr} {p:Pos} {d:Addr} {tab:List (Str × V)} {ty:TE} (T:KTab X.w.params X.K d tab) (hg:Gl X nm) (hm:X.mg nm=some (.ref d)) (hi:PE X i ty) (hd:autoParam ((nm == ("__debug__":Str))=false) aR._auto_2):
  PC X .In i (.Name nm p) (tKIn tab ty):=by
 intro pins s σ H Q I h
 refine thn (hi pins s σ H _ I h) fun iv s1 ⟨y,H1,I1,ry,x,ex,q⟩=>jm I1 hg hm ?_ hd
 subst ex
 obtain ⟨t,rfl⟩:=ry
 obtain ⟨f,mo,lo,hf⟩:=QR (prog:=X.prog) (w:=X.w) rfl T I1.kIn
 refine wpAny_in_of (strKind_is X.prog X.w x t) lo mo ⟨.bl _,H1,I1.tok _,rfl,?_⟩
 rw [←RelO.isSome_eq (hf x)]
 exact q
def z6K (X:Cx) (i:Nat) (t:TA):TE:=fun σ H Q=>∃(f:Addr) (fd:FuncData) (ps:List Str) (sp:Sp) (k:Nat),σ[i]?=some (some (.ref f))∧PySem.W.keepIn X.K (.ref f)=true∧FnOk X.prog X.w X.K X.mg X.base CX0 k f fd ps sp∧Room k X.A∧jG X.K fd ps []∧
 t σ H fun vs H1=>sp vs H1 Q E0
theorem QM {i:Nat} {x:Str} {p pos:Pos} {e:Expr} {es:List Expr} {t:TA} (hv:PE X (.Name x p) (tVar i)) (ha:PA X (e :: es) t)
  (he:autoParam (starEach (e :: es) X.env=(false,eval e X.env) :: starEach es X.env) aR._auto_1) (hpl:autoParam ((backTo pos (starEach es X.env)).any (·.1)=false) aR._auto_1):
  PE X (.Call (.Name x p) (e :: es) [] pos) (z6K X i t):=by
 intro pins s σ H Q I h
 obtain ⟨f,fd,ps,sp,k,hσ,hk,F,hr,hb,h⟩:=h
 refine wpAny_Call_Name_kw (thn (hv pins s σ H (fun v H1=>v=.ref f∧H1=H) I ⟨.ref f,hσ,rfl,rfl⟩) fun u s1 zz=>?_)
 obtain ⟨v,H1,I1,r1,e1,e2⟩:=zz
 subst e1
 subst e2
 cases r1
 refine PySem.W.callWith_K (h₀:=X.base) I1.ok.mod.kin hk (thn (ha pos pins s1 σ _ _ I1 h) fun us s2 ⟨vs,H2,I2,r,q⟩=>⟨I2.kIn,?_⟩) he hpl
 exact z0L F hr hb .nil z2r I2 r (by rw [kU];exact q)
def rEqE (K:ky):R2:=fun x y H Q=>∃p q xs,x=.ref p∧y=.ref q∧SqL K H p xs∧SqL K H q []∧Q (.bl (decide (xs=[]))) H
theorem z77 (hu:X.A.units < cLine):OpR X (compareOp .Eq) (rEqE X.K):=by
 intro pins s σ H x y v u Q I rx ry h
 obtain ⟨p,q,xs,rfl,rfl,h1,h2,hq⟩:=h
 cases rx
 cases ry
 obtain ⟨its,r,pl,_⟩:=I.list h1
 obtain ⟨its2,r2,pl2,_⟩:=I.list h2
 cases r2
 cases r with
 | nil=>
  refine SeqAt.eq_listAt (e:=fun _=>true) pl.isList pl2.isList rfl hu (fun j h1 _=>absurd h1 (by simp)) ⟨.bl _,H,I,rfl,?_⟩
  simpa using hq
 | cons a b=>
  refine SeqAt.eq_list_lengthsAt pl.isList pl2.isList (by simp) hu ⟨.bl _,H,I,rfl,?_⟩
  simpa using hq
theorem z1L:∀{as:List Addr} {us:List Value},Vals (as.map V.ref) us→us=as.map Value.ref:=by
 intro as
 induction as with
 | nil=>intro us r;cases r;rfl
 | cons a r ih=>
  intro us h
  cases h with
  | cons x y=>cases x;rw [ih y];rfl
def z57 (td ty tx:TE):TE:=fun σ H Q=>td σ H fun x H1=>∃a,x=.ref a∧IsD H1 a∧ty σ H1 fun y H2=>tx σ H2 fun z H3=>∃kvs k,H3 a=some (.dK kvs)∧y=kV k∧kvs.length < sizeLine∧
 match valV kvs k with
 | some v=>Q v H3
 | none=>Q z (upd H3 a (.dK (putK kvs k z)))
theorem z2m {o e f:Expr} {apos cpos:Pos} {td ty tx:TE} (ho:PE X o td) (he:PE X e ty) (hf:PE X f tx) (m:M2 X o "setdefault" apos e f cpos):PE X (.Call (.Attribute o "setdefault" apos) [e,f] [] cpos) (z57 td ty tx):=by
 intro pins s σ H Q I h
 refine wpAny_Call_method m.base m.few m.line PySem.F.plainAttrs_dict PySem.F.slot_dict_setdefault PySem.F.type_dict_setdefault (thn (ho pins s σ H _ I h) fun u s1 zz=>?_)
 obtain ⟨x,H1,I1,rx,a,ex,d,q1⟩:=zz
 subst ex
 obtain rfl:u=Value.ref a:=rx
 obtain ⟨t1,t2,_⟩:=z2K I1 d
 refine ⟨t1,t2,?_⟩
 rw [m.trees]
 refine Calls.callWith_builtin rfl (Calls.evalArgs_plain (Calls.spliced_cons (thn (he pins s1 σ H1 _ I1 q1) fun iv s2 ⟨y,H2,I2,ry,q2⟩=>
  Calls.spliced_cons (thn (hf pins s2 σ H2 _ I2 q2) fun fv s3 ⟨z,H3,I3,rz,kvs,k,ea,ek,hz,q3⟩=>Calls.spliced_nil ?_))))
 subst ek
 obtain ⟨hl,lo,vs,rel,dd⟩:=z0u I3.hok ea
 have lenr:=rel.length
 have hargs:argsOk "dict.setdefault" ⟨[.ref a,iv,fv],[]⟩:=PySem.F.args_dict_setdefault_3 _ _ _
 show wpAny (model X.prog X.w) X.A (call (.builtin "dict.setdefault") [.ref a,iv,fv]) _ _ _
 refine call_meetsIn PySem.F.slot_dict_setdefault dd.typeIs PySem.F.entry_dict_setdefault hargs (kt_meets_setdefault (zK X.prog X.w) a (QS ry) lo fv) ⟨vs,dd,by lia,fun v hv=>?_,fun hn h' dd' sb=>?_⟩
 ·cases l:valV kvs k with
  | none=>
   have:=rel.val k
   rw [l,hv] at this
   exact this.elim
  | some w'=>
   have r:=rel.val k
   rw [l,hv] at r
   rw [l] at q3
   exact ⟨w',H3,I3.tok _,r,q3⟩
 ·cases l:valV kvs k with
  | some w'=>
   have r:=rel.val k
   rw [l,hn] at r
   exact r.elim
  | none=>
   rw [l] at q3
   refine ⟨z,_,Zo I3 (ob:=.dK (putK kvs k z)) (by rw [ea];exact trivial) sb ?_ (Qy (ku (qF kvs k z) hz) lo (rel.put k rz) dd'),rz,q3⟩
   obtain ⟨ob,_,_,e,_⟩:=dd'
   exact ⟨ob,e⟩
end
end L2
namespace L2
open PySem PySem.Spec PyProof.Rows
theorem JS {prog:Program} {w:World} {A:Around} {R:Result→Shared→Prop} {s:Shared} {elt target iter:Expr} {ifs:List Expr} {scope:Scope} {pos:Pos} {it acc:Value} {env:Env} (I:Nat→Shared→Prop)
  (turn:∀n s,I n s→wpAny (model prog w) A (pyNext it) (fun r s₁=>match r with
   | none=>R (.ok .next) s₁
   | some v=>wpAny (model prog w) A (letOwnedTupleGo target it v) (fun _ s₁'=>wpAny (model prog w) A (assign target env v) (fun _ s₂=>
     wpAny (model prog w) A (forIn ifs true fun c r=>if r=true then do let ok ←isTrue c env (eval c env);pure (ForInStep.yield ok) else pure (ForInStep.yield r)) (fun ok s₃=>
     if ok=true then wpAny (model prog w) A (eval elt env) (fun x s₃'=>
      wpAny (model prog w) A (call (.builtin "list.append") [acc,x]) (fun _ s₄=>∃m,m < n∧I m s₄) (fun _ _=>False) s₃') (fun _ _=>False) s₃
     else ∃m,m < n∧I m s₃)
     (fun _ _=>False) s₂) (fun _ _=>False) s₁') (fun _ _=>False) s₁) (fun _ _=>False) s)
  (n:Nat) (h:I n s):codeAny (model prog w) A (.compLoop (.ListComp elt [⟨target,iter,ifs,0⟩] scope pos) 0 it acc env) R s:=by
 refine codeAny_loop rfl I (fun n s hI=>?_) n h
 show wpAny _ _ ((compTurn (.ListComp elt [⟨target,iter,ifs,0⟩] scope pos) 0 it acc env).onRaise (fun x=>do noteFrame x env;theTreesLotGoes x)) _ _ s
 refine wpAny_noted ?_
 rw [compTurn_list]
 refine wpAny_bind (wpAny_standAt (wpAny_bind (wpAny_mono (turn n s hI) (fun r s₁ h₁=>?_) fun _ _ h'=>h'.elim)))
 cases r with
 | none=>exact wpAny_pure h₁
 | some v=>
  refine wpAny_bind (wpAny_mono h₁ (fun _ s₁' h₁'=>?_) fun _ _ h'=>h'.elim)
  refine wpAny_bind (wpAny_mono h₁' (fun _ s₂ h₂=>wpAny_bind (wpAny_mono h₂ (fun ok s₃ h₃=>?_) fun _ _ h'=>h'.elim)) fun _ _ h'=>h'.elim)
  cases ok with
  | true=>
   rw [kA rfl] at h₃ ⊢
   exact wpAny_bind (wpAny_bind (wpAny_mono h₃ (fun x s₃' h₃'=>wpAny_bind (wpAny_mono h₃' (fun _ s₄ h₄=>wpAny_pure (wpAny_pure ⟨rfl,h₄⟩)) fun _ _ h'=>h'.elim)) fun _ _ h'=>h'.elim))
  | false=>
   rw [kz ka] at h₃ ⊢
   exact wpAny_bind (wpAny_pure (wpAny_pure ⟨rfl,h₃⟩))
noncomputable abbrev zW (X:Cx) (N:List Str) (scope:Scope) (cl:List (Str × Addr)) (s:Shared) (H:Hp) (fp:List Addr) (C:Addr):Cx where
 prog:=X.prog
 w:=X.w
 K:=X.K
 mg:=X.mg
 base:=X.base
 A:=X.A
 N:=N
 s₀:=s
 H₀:=H
 env:=compEnvC scope cl C X.env
 outer:=X.stack
 stack:=X.stack
 ex:=fp
 fn:=fun _=>false
 calm:=true
 pn:=[]
 xe:=fun _ _=>False
structure qA (X:Cx) (N:List Str) (nt:Nat) (ix:List Nat) (scope:Scope) (cl:List (Str × Addr)):Prop where
 clos:closureFor scope X.env=pure cl
 nocell:∀y∈scope.names,y.2≠.cell
 kind:scope.kind=.function
 names:∀y∈scope.names,y.2=.local→scope.names.lookup y.1=some .local
 sub:∀x c,cl.lookup x=some c→X.env.cells.lookup x=some c
 has:∀x,((relabel scope X.env).names.lookup x=some .cell∨(relabel scope X.env).names.lookup x=some .free)→∃c,cl.lookup x=some c
 len:N.length=nt+ix.length
 free:∀j x,N[nt+j]?=some x→∃i,ix[j]?=some i∧X.N[i]?=some x∧X.env.kindOf x=some .cell∧(relabel scope X.env).names.lookup x=some .cell∧∀c,X.env.cells.lookup x=some c→cl.lookup x=some c
noncomputable def Z4 (nt:Nat) (ix:List Nat) (σ:St):St:=List.replicate nt none++ix.map fun i=>(σ[i]?).join
def PTs (X:Cx) (ifs:List Expr) (tc:TT):Prop:=
 ∀(pins:List (Addr × Obj)) (s:Shared) (σ:St) (H:Hp) (Q:Bool→Hp→Prop),Inv X pins σ H s→tc σ H Q→
  wpAny (model X.prog X.w) X.A (forIn ifs true fun c r=>if r=true then do let ok ←isTrue c X.env (eval c X.env);pure (ForInStep.yield ok) else pure (ForInStep.yield r)) (TP X pins σ Q) X.xe s
def tAll:TT:=fun _ H Q=>Q true H
theorem Zc {X:Cx}:PTs X [] tAll:=fun pins s σ H Q I h=>wpAny_tests_nil ⟨H,I,h⟩
theorem z0d {X:Cx} {c:Expr} {tc:TT} (h:PT X c tc):PTs X [c] tc:=fun pins s σ H Q I hq=>wpAny_tests_one (h pins s σ H Q I hq)
def z4J (nt:Nat) (ix:List Nat) (wi:TI) (g:TG) (tc:TT) (te:TE):TE:=fun σ H Q=>wi σ H fun J H1=>∀l,H1 l=none→∃W:Nat→Nat→List V→St→Hp→Prop,(∃m,W 0 m [] (Z4 nt ix σ) (upd H1 l (.lst [])))∧∀i m ys σ' H2,W i m ys σ' H2→
 (J.stop i H2∧Q (.ref l) H2)∨(J.go i H2∧∀x H3,J.yld i H2 x H3→g x σ' H3 fun σ2 H4=>tc σ2 H4 fun b H5=>if b=true then te σ2 H5 fun v H6=>H6 l=some (.lst ys)∧ys.length < sizeLine∧∃m',m' < m∧W (i+1) m' (ys++[v]) σ2 (upd H6 l (.lst (ys++[v])))
  else ∃m',m' < m∧W (i+1) m' ys σ2 H5)
section
variable {X:Cx}
theorem jo {elt iter tg:Expr} {ifs:List Expr} {N:List Str} {nt:Nat} {ix:List Nat} {scope:Scope} {cl:List (Str × Addr)} {pos:Pos} {pins:List (Addr × Obj)} {σ:St} {H:Hp} {s:Shared} {it:Addr} {fp:List Addr} {tn:Nat→Heap→Prop} {J:It} {g:TG} {tc:TT} {te:TE} {Q:VK} {E:Value→Shared→Prop}
  {RR:Value→Addr→Result→Shared→Prop}
  (hc:X.calm=true) (sc:qA X N nt ix scope cl) (I:Inv X pins σ H s) (T:Turn X.prog X.w X.K tg J fp it tn) (st:tn 0 s.heap) (hf:∀b∈fp,FpOk X pins H b)
  (hg:∀(s:Shared) (H:Hp) (fp:List Addr) (C:Addr),PG (zW X N scope cl s H fp C) tg g)
  (ht:∀(s:Shared) (H:Hp) (fp:List Addr) (C:Addr),PTs (zW X N scope cl s H fp C) ifs tc)
  (he:∀(s:Shared) (H:Hp) (fp:List Addr) (C:Addr),PE (zW X N scope cl s H fp C) elt te)
  (h:∀l,H l=none→∃W:Nat→Nat→List V→St→Hp→Prop,(∃m,W 0 m [] (Z4 nt ix σ) (upd H l (.lst [])))∧∀i m ys σ' H2,W i m ys σ' H2→
   (J.stop i H2∧Q (.ref l) H2)∨(J.go i H2∧∀x H3,J.yld i H2 x H3→g x σ' H3 fun σ2 H4=>tc σ2 H4 fun b H5=>if b=true then te σ2 H5 fun v H6=>H6 l=some (.lst ys)∧ys.length < sizeLine∧∃m',m' < m∧W (i+1) m' (ys++[v]) σ2 (upd H6 l (.lst (ys++[v])))
    else ∃m',m' < m∧W (i+1) m' ys σ2 H5))
  (hRR:∀D C s' H' m,Inv X pins σ H' s'→s'.heap.Ns C m→C≠X.env.locals→H' C=none→X.s₀.heap.objs.size≤C→(∀x c,X.env.cells.lookup x=some c→c≠C)→(∀p∈X.pn++pins,p.1≠C)→Q (.ref D) H'→RR (.ref D) C (.ok .next) s'):
  wpAny (model X.prog X.w) X.A (newList []) (fun acc s₃=>wpAny (model X.prog X.w) X.A (newFunctionEnv scope X.env.globals cl [] X.env.qual none .none (some X.env)) (fun cenv s₄=>
   codeAny (model X.prog X.w) X.A (.compStart (.ListComp elt [⟨tg,iter,ifs,0⟩] scope pos) 0 (.ref it) acc { cenv with scope:=relabel scope X.env }) (RR acc cenv.locals) s₄) E s₃) E s:=by
 refine wpAny_newObj_type ?_
 have I3:Inv X pins σ (upd H s.heap.objs.size (.lst [])) { s with heap:=s.heap.push { cls:=.type "list",data:=.seq ([]:List Value).toArray } }:=I.lnew (ys:=[]) (its:=[]) (t':=s.toks) .nil (Nat.zero_le _)
 have st3:tn 0 (s.heap.push { cls:=.type "list",data:=.seq ([]:List Value).toArray }):=T.keep _ _ _ st fun b hb o e=>Heap.get?_push_of_some _ e
 have fpl:∀b∈fp,b < s.heap.objs.size:=fun b hb=>by
  obtain ⟨o,e,_⟩:=T.obj _ _ st b hb
  exact Heap.lt_size e
 obtain ⟨W,⟨m0,w0⟩,turn⟩:=h s.heap.objs.size I.fresh
 have hf3:∀b∈fp,FpOk X pins (upd H s.heap.objs.size (.lst [])) b:=fun b hb=>⟨by rw [ze (Nat.ne_of_lt (fpl b hb))];exact (hf b hb).1,(hf b hb).2⟩
 generalize hD:s.heap.objs.size=D at *
 generalize hH3:upd H D (HO.lst [])=H3 at *
 generalize hs3:({ s with heap:=s.heap.push { cls:=.type "list",data:=.seq ([]:List Value).toArray } }:Shared)=s3 at *
 have hsz3:s3.heap.objs.size=D+1:=by rw [←hs3,←hD];exact Heap.size_push ..
 have st3':tn 0 s3.heap:=by rw [←hs3];exact st3
 refine wpAny_newFunctionEnv (s:=s3) sc.nocell (by intro y hy;simp at hy) (fun h1 hns hsb=>?_) sc.kind
 generalize hC:s3.heap.objs.size=C at *
 have kept:∀b o,s3.heap.get? b=some o→h1.get? b=some o:=fun b o e=>hsb.extBut b o (by rw [←hC];exact Nat.ne_of_lt (Heap.lt_size e)) (Heap.get?_push_of_some _ e)
 show codeAny (model X.prog X.w) X.A (.compStart (.ListComp elt [⟨tg,iter,ifs,0⟩] scope pos) 0 (.ref it) (.ref D) (compEnvC scope cl C X.env)) (RR (.ref D) C) { s3 with heap:=h1,toks:=s3.toks+0 }
 have fpC:∀b∈fp,b≠C:=fun b hb=>Nat.ne_of_lt (kL (fpl b hb) (by rw [hsz3];exact Nat.le_succ D))
 have cellC:∀x c,cl.lookup x=some c→c≠C:=fun x c e z=>by
  obtain ⟨v,q⟩:=I3.cell x c (sc.sub x c e)
  have:=q.lt
  rw [hC,z] at this
  exact Nat.lt_irrefl _ this
 have ok:(zW X N scope cl s3 H3 fp C).Ok:={
  mod:=I.ok.mod,kind:=(show (relabel scope X.env).kind=.function from sc.kind),glob:=I.ok.glob,blt:=I.ok.blt,above:=kX hC
  inj:=fun y z c e e'=>I.ok.inj y z c (sc.sub y c e) (sc.sub z c e')
  has:=fun y hy=>sc.has y hy
  cab:=fun y c e _=>nomatch e
  hd:=fun _=>I.ok.hd hc
  frames:=I.ok.frames
  stk:=.inl rfl
  exf:=fun b hb=>⟨fpC b hb,fun y c e=>(hf3 b hb).2.2.2.2.1 y c (sc.sub y c e)⟩
  bs:=I3.bs
  bsz:=ku I.ok.bsz I3.sz
  noex:=fun b o e hb=>by
   obtain ⟨_,_,_,h4,_⟩:=hf3 b hb
   rcases h4 with z | z
   ·exact I.ok.noex b o e z
   ·exact absurd (kL (Heap.lt_size (I.ok.bs b o e).1) z) (Nat.lt_irrefl _)
  exfs:=fun b hb z=>by
   obtain ⟨_,h1,h2,_⟩:=hf3 b hb
   rcases kD.mp (I3.stkSub b z) with q | q
   ·exact h1 q
   ·exact h2 q
  funs:=I3.stack
  frf:=I3.stkFree }
 have cellK:∀c v,s3.heap.IsCell c v→h1.IsCell c v:=fun c v ⟨o,ho,hd⟩=>⟨o,kept c o ho,hd⟩
 have I4:Inv (zW X N scope cl s3 H3 fp C) [] (Z4 nt ix σ) H3 { s3 with heap:=h1,toks:=s3.toks+0 }:={
  ok:=ok,os:=rfl,bare:=I3.bare,base:=Un.kept kept
  loc:=⟨_,hns,fun i y v e1 e2 _=>by
   have e2:(Z4 nt ix σ)[i]?=some (some v):=e2
   unfold Z4 at e2
   by_cases hi:i < nt
   ·rw [yf (by simpa using hi),List.getElem?_replicate,kA hi] at e2
    cases e2
   ·obtain ⟨j,rfl⟩:∃j,i=nt+j:=⟨i - nt,by lia⟩
    rw [yg (by simp),List.length_replicate,Nat.add_sub_cancel_left,List.getElem?_map] at e2
    obtain ⟨k,hk,hXN,hkind,hrel,hcl⟩:=sc.free j y e1
    rw [hk] at e2
    have e3:σ[k]?=some (some v):=by
     cases q:σ[k]? with
     | none=>rw [Option.map_some,q] at e2;cases e2
     | some o=>rw [Option.map_some,q] at e2;simpa using e2
    obtain ⟨m,_,hl⟩:=I3.loc
    obtain ⟨u,ru,lk⟩:=hl k y v hXN e3 (.inr (.inl hkind))
    refine ⟨u,ru,.inr ⟨.inl hrel,?_⟩⟩
    rcases lk with ⟨z,_⟩ | ⟨_,c,hcc,hcell⟩
    ·rw [hkind] at z;cases z
    ·exact ⟨c,hcl c hcc,cellK _ _ hcell⟩⟩
  cell:=fun y c e=>let ⟨v,q⟩:=I3.cell y c (sc.sub y c e);⟨v,cellK _ _ q⟩
  free:=I3.hok.fresh (kX hC)
  freeC:=fun y c e=>I3.freeC y c (sc.sub y c e)
  pin:=fun p hp=>absurd (show p∈([]:List (Addr × Obj)) from hp) (by simp)
  hok:=I3.hok.kept kept
  len:=by show (Z4 nt ix σ).length=N.length;rw [sc.len];unfold Z4;simp }
 have st4:tn 0 h1:=T.keep _ _ _ st3' fun b hb o e=>kept b o e
 have stat:∀{H':Hp},(∀b∈fp,H' b=none)→∀b∈fp,FpOk (zW X N scope cl s3 H3 fp C) [] H' b:=fun hn b hb=>⟨hn b hb,fpC b hb,ok.exfs b hb,.inl hb,(fun y c e=>(hf3 b hb).2.2.2.2.1 y c (sc.sub y c e)),fun p hp=>absurd (show p∈([]:List (Addr × Obj)) from hp) (by simp)⟩
 have loop:codeAny (model X.prog X.w) X.A (.compLoop (.ListComp elt [⟨tg,iter,ifs,0⟩] scope pos) 0 (.ref it) (.ref D) (compEnvC scope cl C X.env)) (RR (.ref D) C) { s3 with heap:=h1,toks:=s3.toks+0 }:=by
  refine JS (fun n s'=>∃i ys σ' H',Inv (zW X N scope cl s3 H3 fp C) [] σ' H' s'∧tn i s'.heap∧(∀b∈fp,H' b=none)∧W i n ys σ' H') ?_ m0 ⟨0,[],_,H3,I4,st4,fun b hb=>(hf3 b hb).1,w0⟩
  rintro n s5 ⟨i,ys,σ5,H5,I5,st5,fr5,w5⟩
  rcases turn i n ys σ5 H5 w5 with ⟨stop,qn⟩ | ⟨go,step⟩
  ·refine thn (T.done (zW X N scope cl s3 H3 fp C) rfl rfl rfl rfl i [] s5 σ5 H5 _ I5 (stat fr5) st5 stop) fun r s6 zz=>?_
   obtain ⟨hr,I6⟩:=zz
   subst hr
   obtain ⟨m6,n6,_⟩:=I6.loc
   refine hRR D C s6 H5 m6 (I3.call' I6.os I6.base I6.hok I6.bare fun b hb=>?_) n6 (Nat.ne_of_gt (by have:=I3.lt;rw [hC] at this;exact this)) I6.free (by have:=I3.sz;rw [hC] at this;exact this) (fun y c e z=>?_) (fun p hp z=>?_) qn
   ·obtain ⟨_,h1,_,h4,h5,h6⟩:=hf3 b hb
    exact ⟨h4,h1,h5,h6⟩
   ·obtain ⟨v,q⟩:=I3.cell y c e
    have:=q.lt
    rw [hC,z] at this
    exact Nat.lt_irrefl _ this
   ·have:=Heap.lt_size (I3.pin p hp).1
    rw [hC,z] at this
    exact Nat.lt_irrefl _ this
  ·refine thn (T.item (zW X N scope cl s3 H3 fp C) rfl rfl rfl rfl i [] s5 σ5 H5 _ I5 (stat fr5) st5 go) fun r s6 zz=>?_
   obtain ⟨u,hr,h6⟩:=zz
   subst hr
   refine thn h6 fun _ s7 zz=>?_
   obtain ⟨v,H7,I7,r7,y7,st7,fr7⟩:=zz
   have I7':=I7.pinned (stat fr7) (T.obj _ _ st7)
   refine thn (hg s3 H3 fp C _ s7 σ5 H7 v u _ I7' r7 (step v H7 y7)) fun _ s8 zz=>?_
   obtain ⟨σ8,H8,I8,q8⟩:=zz
   refine thn (ht s3 H3 fp C _ s8 σ8 H8 _ I8 q8) fun b s9 zz=>?_
   obtain ⟨H9,I9,q9⟩:=zz
   have again:∀{sE:Shared} {HE:Hp} {ysE:List V} {m':Nat},Inv (zW X N scope cl s3 H3 fp C) ([]++Jj fp s7.heap) σ8 HE sE→m' < n→W (i+1) m' ysE σ8 HE→∃m,m < n∧∃i ys σ' H',Inv (zW X N scope cl s3 H3 fp C) [] σ' H' sE∧tn i sE.heap∧(∀b∈fp,H' b=none)∧W i m ys σ' H':=fun {sE HE ysE m'} IE hm' wE=>by
    refine ⟨m',hm',i+1,ysE,σ8,HE,IE.unpinned (pins:=[]),T.keep _ _ _ st7 fun b hb o e=>(IE.pin (b,o) (kM _ (kM _ (jJ hb e)))).1,fun b hb=>?_,wE⟩
    obtain ⟨o,e,d⟩:=T.obj _ _ st7 b hb
    exact (IE.pin (b,o) (kM _ (kM _ (jJ hb e)))).2.1
   cases b with
   | false=>
    rw [kz ka] at q9 ⊢
    obtain ⟨m',hm',w9⟩:=q9
    exact again I9 hm' w9
   | true=>
    rw [kA rfl] at q9 ⊢
    refine thn (he s3 H3 fp C _ s9 σ8 H9 _ I9 q9) fun yv s10 zz=>?_
    obtain ⟨y,H10,I10,r10,q10⟩:=zz
    obtain ⟨hl9,hz9,m',hm',w9⟩:=q10
    obtain ⟨z9,its,k9,rv9,ll9,e9⟩:=I10.lstM hl9
    refine call_meets F.slot_list_append ⟨_,e9,rfl⟩ F.entry_list_append (F.args_list_append_2 _ _) (PySem.list_append D its.toArray k9 yv (by rw [kE];lia)) ⟨e9,?_⟩
    have I11:=I10.lset (t':=s10.toks) (its':=its++[yv]) (f:=(·.push yv)) hl9 e9 (by simp) (rv9.append (.cons r10 .nil)) (by rw [kl,kF];lia)
    exact again I11 hm' w9
 exact codeAny_compStart_list loop (T.self _ 0 _ _ _ st4 loop)
theorem ZL {elt iter tg:Expr} {ifs:List Expr} {N:List Str} {nt:Nat} {ix:List Nat} {scope:Scope} {cl:List (Str × Addr)} {pos:Pos} {wi:TI} {g:TG} {tc:TT} {te:TE} (hc:X.calm=true) (sc:qA X N nt ix scope cl) (hi:PI X tg iter wi)
  (hg:∀(s:Shared) (H:Hp) (fp:List Addr) (C:Addr),PG (zW X N scope cl s H fp C) tg g)
  (ht:∀(s:Shared) (H:Hp) (fp:List Addr) (C:Addr),PTs (zW X N scope cl s H fp C) ifs tc)
  (he:∀(s:Shared) (H:Hp) (fp:List Addr) (C:Addr),PE (zW X N scope cl s H fp C) elt te) (hs:∀x,foldedSetIterable iter X.env x=pure x:=by intro _;rfl):
  PE X (.ListComp elt [⟨tg,iter,ifs,0⟩] scope pos) (z4J nt ix wi g tc te):=by
 intro pins s σ H Q I h
 rw [eval_ListComp]
 refine wpAny_comprehension_free (use:=none) rfl hs sc.clos sc.kind sc.names (thn (hi pins s σ H _ I h) fun v s1 h1=>thn h1 fun itv s2 h2=>?_)
 obtain ⟨it,fp,tn,J,H2,e,I2,T,st2,f2,q2⟩:=h2
 subst e
 refine jo (RR:=fun acc C=>compPost (model X.prog X.w) X.A X.xe none (EP X pins σ Q) acc C) hc sc I2 T st2 f2 hg ht he q2 ?_
 intro D C s' H' m I' n' c1 c2 c3 c4 c5 q'
 exact ⟨m,n',fun h' hs'=>⟨.ref D,H',I'.turned (t':=s'.toks) (it:=C) (fun b o hb e=>(hs'.2 b hb).trans e) c2 c1 (.inr c3) c4 c5,rfl,q'⟩⟩
theorem z0e {elt iter tg:Expr} {ifs:List Expr} {N:List Str} {nt:Nat} {ix:List Nat} {y:Str} {i:Nat} {py spos:Pos} {scope:Scope} {cl:List (Str × Addr)} {pos:Pos} {wi:TI} {g:TG} {tc:TT} {te:TE} (hc:X.calm=true) (hN:X.N.Nodup) (hy:X.N[i]?=some y) (hl:Loc X.env.scope y) (sc:qA X N nt ix scope cl) (hi:PI X tg iter wi)
  (hg:∀(s:Shared) (H:Hp) (fp:List Addr) (C:Addr),PG (zW X N scope cl s H fp C) tg g)
  (ht:∀(s:Shared) (H:Hp) (fp:List Addr) (C:Addr),PTs (zW X N scope cl s H fp C) ifs tc)
  (he:∀(s:Shared) (H:Hp) (fp:List Addr) (C:Addr),PE (zW X N scope cl s H fp C) elt te)
  (hsw:autoParam (swapsWith (.ListComp elt [⟨tg,iter,ifs,0⟩] scope pos) (some (.Name y py)) spos.line X.env=pure true) aR._auto_1) (hs:∀x,foldedSetIterable iter X.env x=pure x:=by intro _;rfl)
  (hf:X.fn y=true∨X.env.scope.names.lookup y=some .local:=by first | exact .inl rfl | exact .inr rfl | assumption):
  PS X (.Assign [.Name y py] (.ListComp elt [⟨tg,iter,ifs,0⟩] scope pos) spos) (z3x i (z4J nt ix wi g tc te)):=by
 intro pins s σ H D I h
 rw [exec_Assign_Name_used _ _ _ _ hsw]
 refine wpAny_bind (wpAny_standAt (wpAny_bind ?_))
 show wpAny _ X.A (do let _ ←comprehension (.ListComp elt [⟨tg,iter,ifs,0⟩] scope pos) scope X.env _ (newList []) false (eval iter X.env) (some (assign (.Name y py) X.env))) _ _ s
 refine wpAny_bind (wpAny_mono (wpAny_comprehension_free (use:=some (assign (.Name y py) X.env)) (Q:=fun _ s'=>SP X pins D .next s') (E:=X.xe) rfl hs sc.clos sc.kind sc.names
  (thn (hi pins s σ H _ I h) fun v s1 h1=>thn h1 fun itv s2 h2=>?_)) (fun _ s' hq=>wpAny_pure (wpAny_pure hq)) fun _ _ e=>e)
 obtain ⟨it,fp,tn,J,H2,e,I2,T,st2,f2,q2⟩:=h2
 subst e
 refine jo (Q:=fun v H1=>D.nx (σ.set i (some v)) H1) (RR:=fun acc C=>compPost (model X.prog X.w) X.A X.xe (some (assign (.Name y py) X.env)) (fun _ s'=>SP X pins D .next s') acc C) hc sc I2 T st2 f2 hg ht he q2 ?_
 intro l C s' H' m I' n' c1 c2 c3 c4 c5 q'
 show wpAny _ X.A (assign (.Name y py) X.env (.ref l)) _ _ _
 refine wpAny_assign_Name (J7 I' hN hy hl (v:=.ref l) rfl (fun s'' I'' k=>?_) hf)
 obtain ⟨a,sb,ha⟩:=k
 have hne:C≠a:=by
  rcases ha with ha | ha
  ·rw [ha];exact c1
  ·exact fun z=>c4 _ _ ha z.symm
 refine ⟨m,n'.sameBut sb hne,fun h' hs'=>?_⟩
 exact ⟨_,H',I''.turned (t':=s''.toks) (it:=C) (fun b o hb e=>(hs'.2 b hb).trans e) c2 c1 (.inr c3) c4 c5,q'⟩
end
end L2
namespace L2
open PySem PySem.Spec PyProof.Rows
theorem Inv.recast {X:Cx} {pins:List (Addr × Obj)} {σ:St} {H:Hp} {s:Shared} {d:Addr} {u u':HO} (I:Inv X pins σ H s) (e:H d=some u) (nt:∀xs,u≠.tup xs) (nb:∀ps,u≠.tbl ps) (no:∀x,u≠.own x)
  (hfz:∀o v,X.H₀ d≠some (.frz o v)) (ok:zZ X.prog X.w (upd H d u') s.heap d u'):Inv X pins σ (upd H d u') s:=by
 have nn:∀b,H b=none→upd H d u' b=none:=fun b h=>by
  rw [ze (fun z=>by rw [z,e] at h;cases h)];exact h
 refine { I with base:=⟨I.base.keep,I.base.slot,fun b o q n hx=>nn b (I.base.free b o q n hx),I.base.there,fun b xs q=>?_,fun b o v q=>?_,fun b ps q=>?_⟩,free:=nn _ I.free,freeC:=fun x c q=>nn _ (I.freeC x c q),pin:=fun p hp=>?_,hok:=fun b v q=>?_ }
 ·have:=I.base.tups b xs q
  rw [ze (fun z=>by rw [z,e] at this;exact nt xs (kB this))];exact this
 ·have:=I.base.frzs b o v q
  rw [ze (fun z=>hfz o v (by rw [←z];exact q))];exact this
 ·obtain ⟨m,h⟩:=I.base.tbls b ps q
  exact ⟨m,by rw [ze (fun z=>by rw [z,e] at h;exact nb _ (kB h))];exact h⟩
 ·obtain ⟨a,b,c⟩:=I.pin p hp
  exact ⟨a,nn _ b,c⟩
 ·by_cases hb:b=d
  ·subst hb;rw [z7] at q;cases q;exact ok
  ·rw [ze hb] at q
   refine (I.hok b v q).stay (fun _ _ _ z=>z) (fun c z=>?_) fun c xs z=>?_
   ·rw [ze (fun y=>by rw [y,e] at z;exact no _ (kB z))];exact z
   ·rw [ze (fun y=>by rw [y,e] at z;exact nt _ (kB z))];exact z
theorem Inv.nofrz {X:Cx} {pins:List (Addr × Obj)} {σ:St} {H:Hp} {s:Shared} {d:Addr} {u:HO} (I:Inv X pins σ H s) (e:H d=some u) (nf:∀o v,u≠.frz o v):∀o v,X.H₀ d≠some (.frz o v):=fun o v q=>by
 have:=I.base.frzs d o v q
 rw [e] at this
 exact nf o v (kB this)
theorem JB {k:Key} {u:Value} (h:JD k u=true):RelV (kV k) u:=by
 rcases qc h with ⟨i,t,rfl,rfl⟩ | ⟨x,t,rfl,rfl⟩
 ·exact ⟨t,rfl⟩
 ·exact ⟨t,rfl⟩
theorem KV.get {kvs:List (Key × V)} {vs:List (Key × Value)} (r:KV kvs vs):∀{i:Nat} {p:Key × V},kvs[i]?=some p→∃v,vs[i]?=some (p.1,v)∧RelV p.2 v:=by
 unfold KV at r
 induction r with
 | nil=>intro i p h;simp at h
 | @cons p q ps qs h t ih=>
  intro i p' hp
  cases i with
  | zero=>
   simp at hp
   subst hp
   exact ⟨q.2,by rw [h.1];rfl,h.2⟩
  | succ i=>
   obtain ⟨v,h1,h2⟩:=ih (by simpa using hp)
   exact ⟨v,by simpa using h1,h2⟩
noncomputable def Itd (a:Addr) (o:Obj) (kvs:List (Key × V)):It:=
 ⟨fun i H=>H a=some (.frz o (.dK kvs))∧i < kvs.length,fun i H x H'=>∃p k v,x=.ref p∧H p=none∧kvs[i]?=some (k,v)∧H'=upd H p (.tup [kV k,v]),fun i H=>H a=some (.frz o (.dK kvs))∧kvs.length≤i⟩
theorem z3b:entryFor table "dict_itemiterator.__iter__"=some Builtin.«dict_keyiterator.__iter__»:=
 entryFor_alias (id':="dict_keyiterator.__iter__") (by rw [fastTable_eq_tree];kernel_rfl) (by kernel_rfl) (by kernel_rfl) (by rw [fastTable_eq_tree];kernel_rfl)
theorem qH {prog:Program} {w:World} {A:Around} {E:Value→Shared→Prop} {s:Shared} {it d:Addr} {i n ep:Nat} {ok ov:Value} {Q:Value→Shared→Prop} (he:IsItemIter s.heap it d i n ep ok ov) (h:Q (.ref it) s):
  wpAny (model prog w) A (pyIter (.ref it)) Q E s:=by
 have hT:s.TypeIs (.ref it) "dict_itemiterator":=⟨_,he,rfl⟩
 refine wpAny_pyIter_slot hT F.slot_dict_itemiterator_iter (wpAny_call_entry F.slot_dict_itemiterator_iter hT z3b ?_ (F.args_dict_itemiterator_iter_1 _))
 show wpAny _ _ (ret (.ref it)) _ _ s
 exact wpAny_pure ⟨_,rfl,"dict_itemiterator",_,hT,F.slot_dict_itemiterator_next.lookup,h⟩
theorem z19 {P:Program} {w:World} {K:ky} {elts:List Expr} {x1} {pos:Pos} (a it:Addr) (o:Obj) (kvs:List (Key × V)):
  Turn P w K (.Tuple elts x1 pos) (Itd a o kvs) [it] it (fun i h=>∃es ep ok ov,o.data=.dict es ep∧IsItemIter h it a i kvs.length ep ok ov) where
 mem:=by simp
 obj:=fun i h st b hb=>by
  have z:b=it:=by simpa using hb
  subst z
  obtain ⟨es,ep,ok,ov,_,q⟩:=st
  exact ⟨_,q,fun v y=>by cases y⟩
 keep:=fun i h h' st k=>let ⟨es,ep,ok,ov,d,q⟩:=st;⟨es,ep,ok,ov,d,k it (by simp) _ q⟩
 item:=by
  intro X hP hw hK hc i pins s σ H E I hf st hg
  subst hP hw hK
  obtain ⟨hq,hi⟩:=hg
  obtain ⟨es,ep,ok,ov,hd,hit⟩:=st
  obtain ⟨ho,hz,hsy,vs,rel,ob,es',ep',hob,hex,hdat,r3⟩:=(show zZ X.prog X.w H s.heap a (.frz o (.dK kvs)) from I.hok a _ hq)
  rw [ho] at hob
  cases hob
  rw [hd] at hdat
  cases hdat
  have hm:s.heap.DictAt (zK X.prog X.w) a vs ep:=⟨o,es,ho,hex,hd,r3⟩
  have hlen:kvs.length=vs.length:=Paired.length rel
  obtain ⟨p,hp⟩:∃p,kvs[i]?=some p:=⟨kvs[i],kK hi⟩
  obtain ⟨v,hv,rv⟩:=rel.get hp
  have fi:=hf it (by simp)
  rw [hlen] at hit
  refine wpAny_pyNext_items_item hit hm hv fun key h' hkey heo ht hsz hk=>⟨_,rfl,?_⟩
  have rk:RelV (kV p.1) key:=JB hkey
  have new:zZ X.prog X.w (upd H s.heap.objs.size (.tup [kV p.1,p.2])) h' s.heap.objs.size (.tup [kV p.1,p.2]):=⟨by show 2≤sizeLine;decide,[key,v],.cons rk (.cons rv .nil),_,ht,rfl,_,rfl⟩
  have I1:Inv X pins σ (upd H s.heap.objs.size (.tup [kV p.1,p.2])) { s with heap:=h',toks:=s.toks }:=I.turned2 (e:=it) (it:=it) (t':=s.toks) (fun b o hb _ e=>hk b o hb e) (fun b hb=>by
   have z:b=it:=by simpa using hb
   subst z;exact ⟨_,heo⟩) fi fi new
  have ne1:it≠s.heap.objs.size:=Nat.ne_of_lt (Heap.lt_size hit)
  refine wpAny_letOwnedTupleGo_items (s:={ s with heap:=h' }) heo fun h2 he2 hs2=>?_
  refine ⟨.ref s.heap.objs.size,_,I1.turned (t':=s.toks) (it:=it) (fun b o hb q=>(hs2.2 b hb).trans q) (by rw [ze ne1];exact fi.1) fi.2.1 fi.2.2.2.1 fi.2.2.2.2.1 fi.2.2.2.2.2,rfl,⟨_,p.1,p.2,rfl,I.fresh,hp,rfl⟩,⟨es,ep,key,v,hd,by rw [hlen];exact he2⟩,fun b hb=>?_⟩
  have z:b=it:=by simpa using hb
  subst z;rw [ze ne1];exact fi.1
 done:=by
  intro X hP hw hK hc i pins s σ H E I hf st hg
  subst hP hw hK
  obtain ⟨hq,hi⟩:=hg
  obtain ⟨es,ep,ok,ov,hd,hit⟩:=st
  obtain ⟨ho,hz,hsy,vs,rel,ob,es',ep',hob,hex,hdat,r3⟩:=(show zZ X.prog X.w H s.heap a (.frz o (.dK kvs)) from I.hok a _ hq)
  rw [ho] at hob
  cases hob
  rw [hd] at hdat
  cases hdat
  have hm:s.heap.DictAt (zK X.prog X.w) a vs ep:=⟨o,es,ho,hex,hd,r3⟩
  have hlen:kvs.length=vs.length:=Paired.length rel
  rw [hlen] at hit hi
  obtain ⟨f0,f1,f2,f3,f4,f5⟩:=hf it (by simp)
  exact wpAny_pyNext_items_end (I.ok.hd hc) hit hm (by rw [List.getElem?_eq_none_iff];exact hi) fun h' eb=>⟨rfl,I.turned (t':=s.toks) (fun b o hb e=>eb b o hb e) f0 f1 f3 f4 f5⟩
 self:=fun _ _ _ _ _ st h=>let ⟨es,ep,ok,ov,_,q⟩:=st;qH q h
section
variable {X:Cx}
def z6I (nt:Nat) (ix:List Nat) (td:TE) (g:TG) (tc:TT) (te:TE):TE:=fun σ H Q=>td σ H fun x H1=>∃a kvs,x=.ref a∧H1 a=some (.dK kvs)∧∀o l,H1 l=none→∃W:Nat→Nat→List V→St→Hp→Prop,(∃m,W 0 m [] (Z4 nt ix σ) (upd (upd H1 a (.frz o (.dK kvs))) l (.lst [])))∧∀i m ys σ' H2,W i m ys σ' H2→
 H2 a=some (.frz o (.dK kvs))∧(kvs.length≤i→Q (.ref l) (upd H2 a (.dK kvs)))∧(∀p k v,kvs[i]?=some (k,v)→H2 p=none→g (.ref p) σ' (upd H2 p (.tup [kV k,v])) fun σ2 H4=>tc σ2 H4 fun b H5=>if b=true then te σ2 H5 fun v H6=>H6 l=some (.lst ys)∧ys.length < sizeLine∧∃m',m' < m∧W (i+1) m' (ys++[v]) σ2 (upd H6 l (.lst (ys++[v])))
  else ∃m',m' < m∧W (i+1) m' ys σ2 H5)
theorem QL {elt o:Expr} {elts:List Expr} {x1} {tp apos cpos:Pos} {ifs:List Expr} {N:List Str} {nt:Nat} {ix:List Nat} {scope:Scope} {cl:List (Str × Addr)} {pos:Pos} {td:TE} {g:TG} {tc:TT} {te:TE} (hc:X.calm=true) (sc:qA X N nt ix scope cl) (ho:PE X o td)
  (hg:∀(s:Shared) (H:Hp) (fp:List Addr) (C:Addr),PG (zW X N scope cl s H fp C) (.Tuple elts x1 tp) g)
  (ht:∀(s:Shared) (H:Hp) (fp:List Addr) (C:Addr),PTs (zW X N scope cl s H fp C) ifs tc)
  (he:∀(s:Shared) (H:Hp) (fp:List Addr) (C:Addr),PE (zW X N scope cl s H fp C) elt te) (hs:∀x,foldedSetIterable (.Call (.Attribute o "items" apos) [] [] cpos) X.env x=pure x:=by intro _;rfl)
  (hbase:autoParam (attributeBase o "items" X.env (eval o X.env)=eval o X.env) aR._auto_1) (hline:autoParam ((apos.endLine == cpos.line)=true) aR._auto_1):
  PE X (.ListComp elt [⟨.Tuple elts x1 tp,.Call (.Attribute o "items" apos) [] [] cpos,ifs,0⟩] scope pos) (z6I nt ix td g tc te):=by
 intro pins s σ H Q I h
 rw [eval_ListComp]
 refine wpAny_comprehension_free (use:=none) rfl hs sc.clos sc.kind sc.names ?_
 refine wpAny_Call_method0_late hbase hline (thn (ho pins s σ H _ I h) fun v s1 zz=>?_)
 obtain ⟨x,H1,I1,r1,a,kvs,ex,ha,q1⟩:=zz
 subst ex
 cases r1
 obtain ⟨hz,hsy,vs,rel,dd⟩:=z0u I1.hok ha
 obtain ⟨ob,es,ep,hob,hex,hdat,r3⟩:=id dd
 have hlen:kvs.length=vs.length:=Paired.length rel
 refine ⟨"dict",_,F.plainAttrs_dict,F.slot_dict_items,F.type_dict_items,⟨ob,hob,hex.1⟩,fun b z=>(by cases z;exact ⟨ob,hob,hex.2.1⟩),Calls.callWith_builtin rfl (PySem.evalArgs_none ?_)⟩
 refine call_meetsIn F.slot_dict_items dd.typeIs F.entry_dict_items (F.args_dict_items_1 _) (meets_dict_items (zK X.prog X.w) a hsy) ⟨⟨vs,dd⟩,?_⟩
 have k2:∀b o,s1.heap.get? b=some o→(s1.heap.push { cls:=.type "dict_items",data:=.fields #[.ref a] }).get? b=some o:=fun b o e=>Heap.get?_push_of_some _ e
 have I2:Inv X pins σ H1 { s1 with heap:=s1.heap.push { cls:=.type "dict_items",data:=.fields #[.ref a] } }:=I1.kept (t':=s1.toks) k2
 have hm:(s1.heap.push { cls:=.type "dict_items",data:=.fields #[.ref a] }).DictAt (zK X.prog X.w) a vs ep:=⟨ob,es,k2 _ _ hob,hex,hdat,r3⟩
 generalize hs2:({ s1 with heap:=s1.heap.push { cls:=.type "dict_items",data:=.fields #[.ref a] } }:Shared)=s2 at *
 have hm2:s2.heap.DictAt (zK X.prog X.w) a vs ep:=by rw [←hs2];exact hm
 have hview:s2.heap.IsItemsView s1.heap.objs.size a:=⟨_,by rw [←hs2];exact Heap.get?_push_size _ rfl,rfl,rfl⟩
 refine wpAny_pyIter_items hview hm2 ?_
 have k3:∀b o,s2.heap.get? b=some o→(s2.heap.push { cls:=.type "dict_itemiterator",data:=.fields #[.none,.bool false,.ref a,.int 0 0,.int vs.length 0,.int ep 0,.none,.none] }).get? b=some o:=fun b o e=>Heap.get?_push_of_some _ e
 have I3:Inv X pins σ H1 { s2 with heap:=s2.heap.push { cls:=.type "dict_itemiterator",data:=.fields #[.none,.bool false,.ref a,.int 0 0,.int vs.length 0,.int ep 0,.none,.none] } }:=I2.kept (t':=s2.toks) k3
 have hob3:(s2.heap.push { cls:=.type "dict_itemiterator",data:=.fields #[.none,.bool false,.ref a,.int 0 0,.int vs.length 0,.int ep 0,.none,.none] }).get? a=some ob:=k3 _ _ (by rw [←hs2];exact k2 _ _ hob)
 have nf:=I3.nofrz ha (fun _ _=>nofun)
 have I4:=I3.recast (u':=.frz ob (.dK kvs)) ha (fun _=>nofun) (fun _=>nofun) (fun _=>nofun) nf ⟨hob3,hz,hsy,vs,rel,ob,es,ep,hob3,hex,hdat,r3⟩
 have itn:H1 s2.heap.objs.size=none:=I2.fresh
 have nea:s2.heap.objs.size≠a:=(zc ha itn).symm
 refine jo (Q:=fun v H'=>H' a=some (.frz ob (.dK kvs))∧Q v (upd H' a (.dK kvs))) (RR:=fun acc C=>compPost (model X.prog X.w) X.A X.xe none (EP X pins σ Q) acc C) hc sc I4 (z19 a s2.heap.objs.size ob kvs) ⟨es,ep,.none,.none,hdat,by rw [hlen];exact Heap.get?_push_size _ rfl⟩ (fun b hb=>?_) hg ht he (fun l hl=>?_) ?_
 ·have z:b=s2.heap.objs.size:=by simpa using hb
  subst z
  exact I2.fpOk (ke _) (by rw [ze nea];exact itn)
 ·have hl1:H1 l=none:=by
   cases q:H1 l with
   | none=>rfl
   | some u=>
    by_cases z:l=a
    ·subst z;rw [z7] at hl;cases hl
    ·rw [ze z,q] at hl;cases hl
  obtain ⟨W,w0,turn⟩:=q1 ob l hl1
  refine ⟨W,w0,fun i m ys σ' H2 hW=>?_⟩
  obtain ⟨t1,t2,t3⟩:=turn i m ys σ' H2 hW
  by_cases hlt:i < kvs.length
  ·refine .inr ⟨⟨t1,hlt⟩,fun x H3 y=>?_⟩
   obtain ⟨p,k,v,rfl,hp,hkv,rfl⟩:=y
   exact t3 p k v hkv hp
  ·exact .inl ⟨⟨t1,by lia⟩,t1,t2 (by lia)⟩
 ·intro D C s' H' m I' n' c1 c2 c3 c4 c5 q'
  obtain ⟨q5,q6⟩:=q'
  refine ⟨m,n',fun h' hs'=>?_⟩
  have I5:=I'.turned (t':=s'.toks) (it:=C) (h':=h') (fun b o hb e=>(hs'.2 b hb).trans e) c2 c1 (.inr c3) c4 c5
  obtain ⟨hob5,ok5⟩:=(show zZ X.prog X.w H' h' a (.frz ob (.dK kvs)) from I5.hok a _ q5)
  obtain ⟨z1,z2,vs',rel',dd'⟩:=(show zZ X.prog X.w H' h' a (.dK kvs) from ok5)
  exact ⟨.ref D,_,I5.recast (u':=.dK kvs) q5 (fun _=>nofun) (fun _=>nofun) (fun _=>nofun) nf ⟨z1,z2,vs',rel',dd'⟩,rfl,q6⟩
theorem z3q {bs:List Bool} {us:List Value} (r:Vals (bs.map V.bl) us):us=bs.map Value.bool:=by
 induction bs generalizing us with
 | nil=>cases r;rfl
 | cons b bs ih=>
  cases r with
  | cons x y=>cases x;rw [ih y];rfl
theorem jp (hc:X.calm=true):jt X (.builtin "all") (fun xs H Q=>∃(p:Addr) (bs:List Bool),xs=[.ref p]∧SqL X.K H p (bs.map V.bl)∧Q (.bl (bs.all id)) H):=by
 intro pins s σ H xs us Q I r h
 obtain ⟨p,bs,rfl,hS,q⟩:=h
 obtain ⟨u,rfl,ru⟩:=ZO r
 cases ru
 obtain ⟨its,rv,pl,hz⟩:=I.list hS
 obtain rfl:=z3q rv
 have hh:X.A.in1.handled=none:=I.ok.hd hc
 have hne:p≠s.heap.objs.size:=Nat.ne_of_lt (by obtain ⟨o,_,e,_⟩:=pl;exact Heap.lt_size e)
 refine call_all_walk (wpAny_pyIter_list pl.isList ?_)
 refine ⟨s.heap.objs.size,_,_,_,_,_,fun i=>(bs[i]?).getD true,rfl,Walks.list hh s.heap.objs.size p hne (bs.map Value.bool).toArray,⟨⟨_,Heap.get?_push_size _ rfl,rfl,rfl⟩,pl.isList.push _⟩,fun i v s' Q' E' hv hq=>?_,fun h' tk hk=>?_⟩
 ·have hv:(bs.map Value.bool).toArray[i]?=some v:=hv
  rw [List.getElem?_toArray,List.getElem?_map] at hv
  cases hb:bs[i]? with
  | none=>rw [hb] at hv;cases hv
  | some b=>
   rw [hb] at hv
   cases hv
   have hq:Q' ((bs[i]?).getD true) s':=hq
   rw [hb] at hq
   exact wpAny_truthy_bool hq
 ·have e:(List.range (bs.map Value.bool).toArray.size).all (fun i=>(bs[i]?).getD true)=bs.all id:=by
   rw [kE,kj,Bool.eq_iff_iff,List.all_eq_true,List.all_eq_true]
   constructor
   ·intro h b hb
    obtain ⟨i,hi⟩:=List.getElem?_of_mem hb
    have:=h i (List.mem_range.mpr (kf.mp hi).1)
    rw [hi] at this
    exact this
   ·intro h i hi
    rw [kK (List.mem_range.mp hi)]
    exact h _ (List.getElem_mem _)
  rw [e]
  refine ⟨.bl _,H,I.kept (t':=tk) fun b o e=>hk b o (fun z=>?_) (Heap.get?_push_of_some _ e),rfl,q⟩
  have:b=s.heap.objs.size:=by simpa using z
  rw [this] at e
  exact absurd (Heap.lt_size e) (Nat.lt_irrefl _)
theorem J2:jt X (.type "bool") (fun xs H Q=>∃x,xs=[x]∧((x=.non∧Q (.bl false) H)∨(∃b,x=.bl b∧Q (.bl b) H)∨(∃i,x=.int i∧Q (.bl (i != 0)) H)∨∃z,x=.str z∧z.length≤sizeLine∧Q (.bl ((z.length:Int) != 0)) H)):=by
 intro pins s σ H xs us Q I r h
 obtain ⟨x,rfl,h⟩:=h
 obtain ⟨u,rfl,ru⟩:=ZO r
 rcases h with ⟨rfl,q⟩ | ⟨b,rfl,q⟩ | ⟨i,rfl,q⟩ | ⟨z,rfl,hz,q⟩
 ·cases ru;exact call_bool_none ⟨.bl false,H,I,rfl,q⟩
 ·cases ru;exact call_bool_bool ⟨.bl b,H,I,rfl,q⟩
 ·obtain ⟨t,rfl⟩:=ru;exact call_bool_int ⟨.bl _,H,I,rfl,q⟩
 ·obtain ⟨t,rfl⟩:=ru
  have:=Zw
  exact call_bool_str (by lia) ⟨.bl _,H,I.tok _,rfl,q⟩
def z6C (tab:List (Str × V)) (ty tx:TE):TE:=fun σ H Q=>ty σ H fun y H1=>tx σ H1 fun z H2=>∃x,y=.str x∧Q ((tab.lookup x).getD z) H2
theorem ZK {nm:Str} {e f:Expr} {p apos cpos:Pos} {d:Addr} {tab:List (Str × V)} {ty tx:TE} (T:KTab X.w.params X.K d tab) (hg:Gl X nm) (hm:X.mg nm=some (.ref d)) (he:PE X e ty) (hf:PE X f tx) (m:M2 X (.Name nm p) "get" apos e f cpos) (hd:autoParam ((nm == ("__debug__":Str))=false) aR._auto_2):
  PE X (.Call (.Attribute (.Name nm p) "get" apos) [e,f] [] cpos) (z6C tab ty tx):=by
 intro pins s σ H Q I h
 refine wpAny_Call_method m.base m.few m.line PySem.F.plainAttrs_dict PySem.F.slot_dict_get PySem.F.type_dict_get (jm I hg hm ?_ hd)
 obtain ⟨es,n,hl,hk,hsy,hp⟩:=id T
 have ho:=I.kIn d _ hl
 refine ⟨⟨_,ho,rfl⟩,fun b z=>(by cases z;exact ⟨_,ho,rfl⟩),?_⟩
 rw [m.trees]
 refine Calls.callWith_builtin rfl (Calls.evalArgs_plain (Calls.spliced_cons (thn (he pins s σ H _ I h) fun iv s2 ⟨y,H2,I2,ry,q2⟩=>
  Calls.spliced_cons (thn (hf pins s2 σ H2 _ I2 q2) fun fv s3 ⟨z,H3,I3,rz,x,ex,q3⟩=>Calls.spliced_nil ?_))))
 subst ex
 obtain ⟨t,rfl⟩:=ry
 obtain ⟨fm,mo,_,hf⟩:=QR (prog:=X.prog) (w:=X.w) rfl T I3.kIn
 refine call_meetsIn PySem.F.slot_dict_get mo.typeIs PySem.F.entry_dict_get (PySem.F.args_dict_get_3 _ _ _) (meets_dict_get_default (strKind X.prog X.w) d (strKind_is X.prog X.w x t) hsy fv) ⟨_,mo,_,H3,I3.tok _,(hf x).getD rz,q3⟩
theorem J1 {C:Addr} {k:Nat} {f:Addr} {fd:FuncData} {sp:Sp} (hs:PySem.W.findIn X.K (.ref C) "__len__"=some (some (.ref f))) (hfn:PySem.W.isFn X.K (.ref f)=true) (F:FnOk X.prog X.w X.K X.mg X.base CX0 k f fd ["self"] sp) (hr:Room k X.A.in1) (hb:jG X.K fd ["self"] []):
  jt X (.builtin "len") (fun xs H Q=>∃a dx fs,xs=[.ref a]∧H a=some (.ins C dx fs)∧sp [.ref a] H (fun v H1=>∃n:Nat,v=.int n∧n≤1000000∧Q (.int n) H1) E0):=by
 intro pins s σ H xs us Q I r h
 obtain ⟨a,dx,fs,rfl,ha,q⟩:=h
 obtain ⟨u,rfl,ru⟩:=ZO r
 cases ru
 obtain ⟨m,FF⟩:=I.fr
 obtain ⟨_,_,_,e,mA,⟨od,es,ep,e2,_⟩,_⟩:=(show zZ X.prog X.w H s.heap a (.ins C dx fs) from I.hok a _ ha)
 refine PySem.W.len_K FF I.ok.mod.kin (ox:=PySem.W.instObj C dx) (od:=some od) ⟨e,rfl,rfl,e2⟩ hs hfn ?_
 refine wpAny_call (codeAny_mono (F.run X.A.in1 X.stack s H ⟨[.ref a],[]⟩ [.ref a] [.ref a] _ E0 hr I.env0.in1 (hb s [.ref a] I.kIn rfl) (.cons rfl .nil) q) fun r s' hq=>?_)
 cases r with
 | error e=>exact (show False from hq).elim
 | ok fl=>
  cases fl with
  | ret u=>
   obtain ⟨v,H',I',rv,n,rfl,hn,q'⟩:=I.after hq
   obtain ⟨t,rfl⟩:=rv
   exact ⟨⟨by lia,by lia⟩,.int n,H',I'.tok _,⟨_,rfl⟩,q'⟩
  | next=>exact False.elim hq
  | brk=>exact False.elim hq
  | cont=>exact False.elim hq
end
end L2
theorem zU0 {C:List PySem.Value→Prop} (h:C []):∀us:List PySem.Value,us.length=0→C us:=by
 intro us hl
 cases us with
 | nil=>exact h
 | cons a t=>exact absurd hl (Nat.succ_ne_zero _)
theorem zU1 {C:List PySem.Value→Prop} (h:∀a,C [a]):∀us:List PySem.Value,us.length=1→C us:=by
 intro us hl
 cases us with
 | nil=>exact absurd hl.symm (Nat.succ_ne_zero _)
 | cons a t=>exact zU0 (C:=fun t=>C (a :: t)) (h a) t (Nat.succ.inj hl)
theorem zU2 {C:List PySem.Value→Prop} (h:∀a b,C [a,b]):∀us:List PySem.Value,us.length=2→C us:=by
 intro us hl
 cases us with
 | nil=>exact absurd hl.symm (Nat.succ_ne_zero _)
 | cons a t=>exact zU1 (C:=fun t=>C (a :: t)) (h a) t (Nat.succ.inj hl)
theorem zU3 {C:List PySem.Value→Prop} (h:∀a b c,C [a,b,c]):∀us:List PySem.Value,us.length=3→C us:=by
 intro us hl
 cases us with
 | nil=>exact absurd hl.symm (Nat.succ_ne_zero _)
 | cons a t=>exact zU2 (C:=fun t=>C (a :: t)) (h a) t (Nat.succ.inj hl)
theorem zU4 {C:List PySem.Value→Prop} (h:∀a b c d,C [a,b,c,d]):∀us:List PySem.Value,us.length=4→C us:=by
 intro us hl
 cases us with
 | nil=>exact absurd hl.symm (Nat.succ_ne_zero _)
 | cons a t=>exact zU3 (C:=fun t=>C (a :: t)) (h a) t (Nat.succ.inj hl)
theorem zU5 {C:List PySem.Value→Prop} (h:∀a b c d e,C [a,b,c,d,e]):∀us:List PySem.Value,us.length=5→C us:=by
 intro us hl
 cases us with
 | nil=>exact absurd hl.symm (Nat.succ_ne_zero _)
 | cons a t=>exact zU4 (C:=fun t=>C (a :: t)) (h a) t (Nat.succ.inj hl)
namespace My
open PySem PySem.Spec PyProof.Rows L2
variable {P:Program} {w:World} {K:ky} {mg:Str→Option Value} {base:Heap}
theorem fsM {N P:List Str} {sc:Scope} (a:autoParam (sc.kind=.function) aR._auto_1) (b:autoParam (sc.isCoroutine=false) aR._auto_1) (c:autoParam (sc.isGenerator=false) aR._auto_1) (d:N.Nodup:=by trivial) (e:autoParam (N.take P.length=P) aR._auto_1)
  (f:∀x∈P,sc.names.lookup x=some .local∨sc.names.lookup x=some .cell:=by trivial) (g:∀y∈sc.names,y.2≠.free:=by trivial):zj N P sc:=⟨a,b,c,d,e,f,g⟩
theorem jr {X:Cx} {o e:Expr} {es:List Expr} {to:TE} {t:TA} {apos cpos:Pos} (ho:PE X o to) (ha:PA X (e :: es) t) (hbase:autoParam (attributeBase o "append" X.env (eval o X.env)=eval o X.env) aR._auto_1)
  (hfew:autoParam (((backTo cpos (starEach (e :: es) X.env)).all (fun x=> !x.1)&&(backToKw cpos (keywordEach [] X.env)).all (fun x=>x.1.isSome)&&decide ((e :: es).length+([]:List Keyword).length+(if ([]:List Keyword).isEmpty then 0 else 1) < 30))=true) aR._auto_1)
  (hline:autoParam ((apos.endLine == cpos.line)=true) aR._auto_1) (hs:autoParam (starEach (e :: es) X.env=(false,eval e X.env) :: starEach es X.env) aR._auto_1) (hplain:autoParam ((backTo cpos (starEach es X.env)).any (·.1)=false) aR._auto_1):PE X (.Call (.Attribute o "append" apos) (e :: es) [] cpos) (tBM X.K "list" z0c to t):=z1h PySem.F.plainAttrs_list PySem.F.slot_list_append PySem.F.type_list_append z2B ho ha hbase hfew hline hs hplain
theorem jq {X:Cx} {o:Expr} {to:TE} {apos cpos:Pos} (ho:PE X o to) (hbase:autoParam (attributeBase o "pop" X.env (eval o X.env)=eval o X.env) aR._auto_1) (hline:autoParam ((apos.endLine == cpos.line)=true) aR._auto_1):PE X (.Call (.Attribute o "pop" apos) [] [] cpos) (tBM0 X.K "list" rPop to):=Qp PySem.F.plainAttrs_list PySem.F.slot_list_pop PySem.F.type_list_pop z7a ho hbase hline
noncomputable def top (i:Nat):Stmt:=PySem.Challenge.pw_codemill_k11_refused_runs.main.body.getD i (.Pass ⟨0,0,0,0⟩)
def FN (P:Program) (w:World) (K:ky) (mg:Str→Option Value) (base:Heap) (k:Nat) (name:Str) (ps:List Str) (sp:Sp):Prop:=
 ∃f fd,mg name=some (.ref f)∧PySem.W.keepIn K (.ref f)=true∧jG K fd ps []∧FnOk P w K mg base CX0 k f fd ps sp
def zm (K:ky) (mg:Str→Option Value) (name:Str) (st:Stmt):Prop:=∃f fd,Fun K name name st f fd∧mg name=some (.ref f)
section
theorem FN.mono {j k:Nat} {name:Str} {ps:List Str} {sp:Sp} (F:FN P w K mg base j name ps sp) (h:j≤k):FN P w K mg base k name ps sp:=by
 obtain ⟨f,fd,a,b,c,d⟩:=F
 exact ⟨f,fd,a,b,c,d.mono h⟩
theorem FN.imp {k:Nat} {name:Str} {ps:List Str} {sp sp':Sp} (F:FN P w K mg base k name ps sp) (h:∀vs H Q E,sp' vs H Q E→sp vs H Q E):FN P w K mg base k name ps sp':=by
 obtain ⟨f,fd,a,b,c,d⟩:=F
 exact ⟨f,fd,a,b,c,d.imp h⟩
theorem FN.of {name:Str} {st:Stmt} {N ps:List Str} {sp:Sp} {k:Nat} (D:zm K mg name st) (S:zj N ps (zd st))
  (hb:∀(kV doc pm:Value) (an:Option Addr) (cdv ct:Value) (us:List Value),us.length=ps.length→bindArgs (PySem.W.fnOf name name (qx st) (zE st) (zd st) .none kV doc pm an cdv ct) ⟨us,[]⟩=pure (ps.zip us))
  (len:∀vs H Q E,sp vs H Q E→vs.length=ps.length)
  (hbody:∀(f:Addr) (cdv:Value) (A:Around) (outer:List Env) (s:Shared) (H:Hp) (vs:List V) (Q:VK) (E:XK),Room k (A.deeper (envOfC name (zd st) s.heap.objs.size f cdv))→sp vs H Q E→
   ∃t,PSs (cxOf CX0 P w K mg base N name (zd st) f cdv A outer s H E).nox (zE st) t∧t { nx:=fun _ H'=>Q .non H',rt:=Q } (qT N vs) H):FN P w K mg base (k+1) name ps sp:=by
 obtain ⟨f,fd,F,m⟩:=D
 exact ⟨f,fd,m,F.kp,F.binds hb,F.ok S len (hbody f)⟩
theorem FN.o {name:Str} {st:Stmt} {N ps:List Str} {sp:Sp} {k:Nat} (D:zm K mg name st) (S:zj N ps (zd st))
  (hbody:∀(f:Addr) (cdv:Value) (A:Around) (outer:List Env) (s:Shared) (H:Hp) (vs:List V) (Q:VK) (E:XK),Room k (A.deeper (envOfC name (zd st) s.heap.objs.size f cdv))→sp vs H Q E→
   ∃t,PSs (cxOf CX0 P w K mg base N name (zd st) f cdv A outer s H E).nox (zE st) t∧t { nx:=fun _ H'=>Q .non H',rt:=Q } (qT N vs) H)
  (hb:∀(kV doc pm:Value) (an:Option Addr) (cdv ct:Value) (us:List Value),us.length=ps.length→bindArgs (PySem.W.fnOf name name (qx st) (zE st) (zd st) .none kV doc pm an cdv ct) ⟨us,[]⟩=pure (ps.zip us):=by (first | exact fun _ _ _ _ _ _=>zU1 fun _=>rfl | exact fun _ _ _ _ _ _=>zU2 fun _ _=>rfl | exact fun _ _ _ _ _ _=>zU3 fun _ _ _=>rfl | exact fun _ _ _ _ _ _=>zU4 fun _ _ _ _=>rfl | exact fun _ _ _ _ _ _=>zU5 fun _ _ _ _ _=>rfl))
  (len:∀vs H Q E,sp vs H Q E→vs.length=ps.length:=by (intro vs H Q E h;repeat (first | (obtain ⟨e,_⟩:=h;subst e;rfl) | (obtain ⟨_,h⟩:=h)))):FN P w K mg base (k+1) name ps sp:=FN.of D S hb len hbody
end
section
variable {X:Cx} {k:Nat} {name:Str} {ps:List Str} {sp:Sp} {p pos:Pos} {e:Expr} {es:List Expr} {t:TA}
theorem zu (F:FN X.prog X.w X.K X.mg X.base k name ps sp) (hr:Room k X.A) (hg:Gl X name) (ha:PA X (e :: es) t) (hdb:autoParam ((name == ("__debug__":Str))=false) aR._auto_2)
  (he:autoParam (starEach (e :: es) X.env=(false,eval e X.env) :: starEach es X.env) aR._auto_1) (hpl:autoParam ((backTo pos (starEach es X.env)).any (·.1)=false) aR._auto_1):
  PE X (.Call (.Name name p) (e :: es) [] pos) (z5c sp [] E0 t):=by
 obtain ⟨f,fd,a,b,c,d⟩:=F
 exact z2q d hr hg a b c .nil z2r ha hdb he hpl
end
inductive Scal:V→Prop where
 | non:Scal .non
 | bl (b:Bool):Scal (.bl b)
 | int (i:Int):Scal (.int i)
 | str (s:Str) (h:s.length≤sizeLine):Scal (.str s)
noncomputable def Zj:V→Bool
 | .int _=>true
 | _=>false
noncomputable def isB:V→Bool
 | .bl _=>true
 | _=>false
noncomputable def isS:V→Bool
 | .str _=>true
 | _=>false
noncomputable def qg (x:V) (lo hi:Int):Bool:=match x with
 | .int i=>decide (lo≤i)&&decide (i≤hi)
 | _=>false
noncomputable def jB (x:V) (most:Int):Bool:=match x with
 | .str s=>decide ((1:Int)≤(s.length:Int))&&decide ((s.length:Int)≤most)&&Txt.isascii s&&Txt.isalpha s
 | _=>false
noncomputable def low:V→Bool
 | .str s=>Txt.islower s
 | _=>false
noncomputable def jh (x:V):Bool:=jB x 4&&low x
noncomputable def Jz (x:V):Bool:=jB x 8
noncomputable def z41 (x:V):Bool:=qg x 0 99
noncomputable def j6 (x:V) (most:Int):Bool:=decide (x=.non)||isB x||qg x (-most) most||Jz x
noncomputable def QH (x:V):Bool:=j6 x 1000000000
noncomputable def QX (x:V):Bool:=qg x 1 9
noncomputable def ZH (x:V):Bool:=qg x 2 9
noncomputable def z40 (x:V):Bool:=decide (x=.non)
noncomputable def Z9:List (Str × Str):=[("push","value"),("load","name"),("quick","name"),("store","name"),("clear","name"),("copy","copied"),("swap","swapped"),("jump","mark"),("iftrue","mark"),("iffalse","mark"),("ortrue","mark"),("orfalse","mark"),("try","mark"),("label","mark"),("add","none"),("sub","none"),("mul","none"),("div","none"),("rest","none"),("less","none"),("same","none"),("neg","none"),("not","none"),("drop","none"),("tell","none"),("return","none"),("raise","none"),("endtry","none")]
noncomputable def qv (op:Str):Option Str:=Z9.lookup op
noncomputable def Z2 (sort:Str) (x:V):Bool:=
 if sort="value" then QH x else if sort="name" then jh x else if sort="copied" then QX x else if sort="swapped" then ZH x else if sort="mark" then z41 x else z40 x
noncomputable def Qd (op:Str) (x:V):Bool:=match qv op with
 | some s=>Z2 s x
 | none=>false
noncomputable def rowV (op:Str) (arg line:V):Bool:=(qv op).isSome&&Qd op arg&&qg line 0 9999
structure Glo (mg:Str→Option Value):Prop where
 isinstance:mg "isinstance"=none
 int:mg "int"=none
 bool:mg "bool"=none
 str:mg "str"=none
 tuple:mg "tuple"=none
 list:mg "list"=none
 len:mg "len"=none
 range:mg "range"=none
 enumerate:mg "enumerate"=none
 rows:∃u,mg "MOST_ROWS"=some u∧RelV (.int 150) u
 line:∃u,mg "MOST_LINE"=some u∧RelV (.int 9999) u
 mark:∃u,mg "MOST_MARK"=some u∧RelV (.int 99) u
 pushed:∃u,mg "MOST_PUSHED"=some u∧RelV (.int 1000000000) u
 name:∃u,mg "LONGEST_NAME"=some u∧RelV (.int 4) u
 kind:∃u,mg "LONGEST_KIND"=some u∧RelV (.int 8) u
 all:mg "all"=none
 dict:mg "dict"=none
 max:mg "max"=none
 min:mg "min"=none
 abs:mg "abs"=none
 made:∃u,mg "MOST_MADE"=some u∧RelV (.int 1000000000000000000) u
 names:∃u,mg "MOST_NAMES"=some u∧RelV (.int 8) u
 steps:∃u,mg "MOST_STEPS"=some u∧RelV (.int 100000) u
theorem zi:bootBuiltins "isinstance"=some (.builtin "isinstance"):=by trivial
theorem J3:bootBuiltins "int"=some (.type "int"):=by trivial
theorem qL:bootBuiltins "bool"=some (.type "bool"):=by trivial
theorem jK:bootBuiltins "str"=some (.type "str"):=by trivial
theorem z1F:bootBuiltins "tuple"=some (.type "tuple"):=by trivial
theorem Z5:bootBuiltins "list"=some (.type "list"):=by trivial
theorem zR:bootBuiltins "len"=some (.builtin "len"):=by trivial
theorem z0W {K:ky} {H:Hp} {x:V} (h:Scal x):∃t,TyOf K H x t∧PySem.W.kitOne K t (.type "int")=some (Zj x||isB x):=by
 cases h with
 | non=>exact ⟨_,.non,rfl⟩
 | bl b=>exact ⟨_,.bl b,rfl⟩
 | int i=>exact ⟨_,.int i,rfl⟩
 | str s _=>exact ⟨_,.str s,rfl⟩
theorem jC {K:ky} {H:Hp} {x:V} (h:Scal x):∃t,TyOf K H x t∧PySem.W.kitOne K t (.type "bool")=some (isB x):=by
 cases h with
 | non=>exact ⟨_,.non,rfl⟩
 | bl b=>exact ⟨_,.bl b,rfl⟩
 | int i=>exact ⟨_,.int i,rfl⟩
 | str s _=>exact ⟨_,.str s,rfl⟩
theorem z0V {K:ky} {H:Hp} {x:V} (h:Scal x):∃t,TyOf K H x t∧PySem.W.kitOne K t (.type "str")=some (isS x):=by
 cases h with
 | non=>exact ⟨_,.non,rfl⟩
 | bl b=>exact ⟨_,.bl b,rfl⟩
 | int i=>exact ⟨_,.int i,rfl⟩
 | str s _=>exact ⟨_,.str s,rfl⟩
theorem z1r {K:ky} {H:Hp} {x:V} (h:Scal x):∃t,TyOf K H x t∧PySem.W.kitOne K t (.type "tuple")=some false:=by
 cases h with
 | non=>exact ⟨_,.non,rfl⟩
 | bl b=>exact ⟨_,.bl b,rfl⟩
 | int i=>exact ⟨_,.int i,rfl⟩
 | str s _=>exact ⟨_,.str s,rfl⟩
section
variable {X:Cx}
theorem qQ (T:String) {x:Str} {pos:Pos} (hg:Gl X x) (hm:X.mg x=none) (hv:bootBuiltins x=some (.type T)) (hn:autoParam (x≠"__name__") aR._auto_2) (hd:autoParam ((x == ("__debug__":Str))=false) aR._auto_2):PE X (.Name x pos) (tC (.ty T)):=z5u hg hm hv rfl hn hd
theorem qt {x:Str} {v:V} {pos:Pos} (hg:Gl X x) (hm:∃u,X.mg x=some u∧RelV v u) (hd:autoParam ((x == ("__debug__":Str))=false) aR._auto_2):PE X (.Name x pos) (tC v):=by
 obtain ⟨u,h1,h2⟩:=hm
 exact zA hg h1 h2 hd
end
section
def sp1 (f:V→Bool):Sp:=fun vs H Q _=>∃x,vs=[x]∧Scal x∧Q (.bl (f x)) H
theorem z80 {f:V→Bool} (vs:List V) (H:Hp) (Q:VK) (E:XK) (h:sp1 f vs H Q E):vs.length=1:=by
 obtain ⟨x,rfl,_⟩:=h
 rfl
theorem sc18:zj ["thing"] ["thing"] (zd (top 18)):=fsM
theorem JP (D:zm K mg "is_number" (top 18)) (G:Glo mg):FN P w K mg base 1 "is_number" ["thing"] (sp1 Zj):=by
 refine FN.o D sc18 fun f cdv A outer s H vs Q E hr h=>?_
 obtain ⟨x,rfl,hx,q⟩:=h
 refine ⟨_,zf (zk (qj (zl zy rfl G.isinstance zi (z6 (pv 0) (z6 (qQ "int" rfl G.int J3) z8)))
  (qm (z0O (zl zy rfl G.isinstance zi (z6 (pv 0) (z6 (qQ "bool" rfl G.bool qL) z8))))))),?_⟩
 obtain ⟨t1,ty1,k1⟩:=z0W (K:=K) (H:=H) hx
 obtain ⟨t2,ty2,k2⟩:=jC (K:=K) (H:=H) hx
 refine ⟨_,rfl,_,"int",t1,_,rfl,ty1,k1,_,rfl,?_⟩
 cases hx with
 | non=>exact q
 | bl b=>exact ⟨_,rfl,_,"bool",t2,_,rfl,ty2,k2,_,rfl,q⟩
 | int i=>exact ⟨_,rfl,_,"bool",t2,_,rfl,ty2,k2,_,rfl,q⟩
 | str s _=>exact q
def j7:Sp:=fun vs H Q _=>∃x lo hi,vs=[x,.int lo,.int hi]∧Scal x∧Q (.bl (qg x lo hi)) H
theorem sc19:zj ["thing","low","high"] ["thing","low","high"] (zd (top 19)):=fsM
theorem z2Z (D:zm K mg "is_number_within" (top 19)) (G:Glo mg) (F1:FN P w K mg base 1 "is_number" ["thing"] (sp1 Zj)):FN P w K mg base 2 "is_number_within" ["thing","low","high"] j7:=by
 refine FN.o D sc19 fun f cdv A outer s H vs Q E hr h=>?_
 obtain ⟨x,lo,hi,rfl,hx,q⟩:=h
 refine ⟨_,zf (zk (qj (zu F1 hr rfl (z6 (pv 0) z8)) (qm (jI Zh Zh (pv 1) (pv 0) (pv 2))))),?_⟩
 refine ⟨_,rfl,x,rfl,hx,_,rfl,?_⟩
 cases hx with
 | non=>exact q
 | bl b=>exact q
 | str s _=>exact q
 | int i=>
  refine ⟨_,rfl,_,rfl,_,_,rfl,rfl,_,rfl,?_⟩
  have q':Q (.bl (decide (lo≤i)&&decide (i≤hi))) H:=q
  refine ite2 (fun c=>?_) (fun c=>?_)
  ·rw [c,Bool.true_and] at q'
   exact ⟨_,rfl,_,_,rfl,rfl,q'⟩
  ·rw [Bool.eq_false_iff.mpr c,Bool.false_and] at q'
   exact q'
def ZT:Sp:=fun vs H Q _=>∃x most,vs=[x,.int most]∧Scal x∧Q (.bl (jB x most)) H
theorem sc20:zj ["thing","most"] ["thing","most"] (zd (top 20)):=fsM
theorem z1y (D:zm K mg "is_letters" (top 20)) (G:Glo mg):FN P w K mg base 1 "is_letters" ["thing","most"] ZT:=by
 refine FN.o D sc20 fun f cdv A outer s H vs Q E hr h=>?_
 obtain ⟨x,most,rfl,hx,q⟩:=h
 refine ⟨_,zf (zk (qj (zl zy rfl G.isinstance zi (z6 (pv 0) (z6 (qQ "str" rfl G.str jK) z8)))
  (qj (jI Zh Zh zh (zl jb rfl G.len zR (z6 (pv 0) z8)) (pv 1))
  (qj (Qp F.plainAttrs_str F.slot_str_isascii F.type_str_isascii Qq (pv 0))
  (qm (Qp F.plainAttrs_str F.slot_str_isalpha F.type_str_isalpha Qr (pv 0))))))),?_⟩
 obtain ⟨t1,ty1,k1⟩:=z0V (K:=K) (H:=H) hx
 refine ⟨_,rfl,_,"str",t1,_,rfl,ty1,k1,_,rfl,?_⟩
 cases hx with
 | non=>exact q
 | bl b=>exact q
 | int i=>exact q
 | str z hz=>
  have q':Q (.bl (decide ((1:Int)≤(z.length:Int))&&decide ((z.length:Int)≤most)&&Txt.isascii z&&Txt.isalpha z)) H:=q
  refine ⟨_,rfl,z,rfl,hz,_,_,rfl,rfl,_,rfl,?_⟩
  refine ite2 (fun c=>?_) (fun c=>?_)
  ·rw [c,Bool.true_and] at q'
   refine ⟨_,rfl,_,_,rfl,rfl,_,rfl,?_⟩
   refine ite2 (fun c=>?_) (fun c=>?_)
   ·rw [c,Bool.true_and] at q'
    refine ⟨_,rfl,rfl,z,rfl,rfl,_,rfl,?_⟩
    refine ite2 (fun c=>?_) (fun c=>?_)
    ·rw [c,Bool.true_and] at q'
     exact ⟨_,rfl,rfl,z,rfl,rfl,q'⟩
    ·rw [Bool.eq_false_iff.mpr c,Bool.false_and] at q'
     exact q'
   ·rw [Bool.eq_false_iff.mpr c,Bool.false_and,Bool.false_and] at q'
    exact q'
  ·rw [Bool.eq_false_iff.mpr c,Bool.false_and,Bool.false_and,Bool.false_and] at q'
   exact ⟨_,rfl,q'⟩
theorem sc21:zj ["thing"] ["thing"] (zd (top 21)):=fsM
theorem z62 (D:zm K mg "is_name" (top 21)) (G:Glo mg) (F1:FN P w K mg base 1 "is_letters" ["thing","most"] ZT):FN P w K mg base 2 "is_name" ["thing"] (sp1 jh):=by
 refine FN.o D sc21 fun f cdv A outer s H vs Q E hr h=>?_
 obtain ⟨x,rfl,hx,q⟩:=h
 refine ⟨_,zf (zk (qj (zu F1 hr rfl (z6 (pv 0) (z6 (qt rfl G.name) z8)))
  (qm (Qp F.plainAttrs_str F.slot_str_islower F.type_str_islower z1i (pv 0))))),?_⟩
 refine ⟨_,rfl,x,4,rfl,hx,_,rfl,?_⟩
 have q':Q (.bl (jB x 4&&low x)) H:=q
 refine ite2 (fun c=>?_) (fun c=>?_)
 ·rw [c,Bool.true_and] at q'
  cases hx with
  | non=>cases c
  | bl b=>cases c
  | int i=>cases c
  | str z hz=>exact ⟨_,rfl,rfl,z,rfl,rfl,q'⟩
 ·rw [Bool.eq_false_iff.mpr c,Bool.false_and] at q'
  exact q'
theorem sc22:zj ["thing"] ["thing"] (zd (top 22)):=fsM
theorem z67 (D:zm K mg "is_kind" (top 22)) (G:Glo mg) (F1:FN P w K mg base 1 "is_letters" ["thing","most"] ZT):FN P w K mg base 2 "is_kind" ["thing"] (sp1 Jz):=by
 refine FN.o D sc22 fun f cdv A outer s H vs Q E hr h=>?_
 obtain ⟨x,rfl,hx,q⟩:=h
 refine ⟨_,zf (zk (zu F1 hr rfl (z6 (pv 0) (z6 (qt rfl G.kind) z8)))),?_⟩
 exact ⟨_,rfl,x,8,rfl,hx,q⟩
theorem sc23:zj ["thing"] ["thing"] (zd (top 23)):=fsM
theorem z63 (D:zm K mg "is_mark" (top 23)) (G:Glo mg) (F1:FN P w K mg base 2 "is_number_within" ["thing","low","high"] j7):FN P w K mg base 3 "is_mark" ["thing"] (sp1 z41):=by
 refine FN.o D sc23 fun f cdv A outer s H vs Q E hr h=>?_
 obtain ⟨x,rfl,hx,q⟩:=h
 refine ⟨_,zf (zk (zu F1 hr rfl (z6 (pv 0) (z6 zh (z6 (qt rfl G.mark) z8))))),?_⟩
 exact ⟨_,rfl,x,0,99,rfl,hx,q⟩
def ZR:Sp:=fun vs H Q _=>∃x most,vs=[x,.int most]∧Scal x∧Q (.bl (j6 x most)) H
theorem sc24:zj ["thing","most"] ["thing","most"] (zd (top 24)):=fsM
theorem z4j (D:zm K mg "is_value_within" (top 24)) (G:Glo mg) (F1:FN P w K mg base 2 "is_number_within" ["thing","low","high"] j7) (F2:FN P w K mg base 2 "is_kind" ["thing"] (sp1 Jz)):FN P w K mg base 3 "is_value_within" ["thing","most"] ZR:=by
 refine FN.o D sc24 fun f cdv A outer s H vs Q E hr h=>?_
 obtain ⟨x,most,rfl,hx,q⟩:=h
 refine ⟨_,zb (zJ (PW.pt (jx (zn jX (pv 0) zF (zt _)) (j9 (zX (zl zy rfl G.isinstance zi (z6 (pv 0) (z6 (qQ "bool" rfl G.bool qL) z8))))))) (zf (zk qV)) zq)
  (zf (zk (z3P (zu F1 hr rfl (z6 (pv 0) (z6 (jP qS (pv 1)) (z6 (pv 1) z8)))) (qm (zu F2 hr rfl (z6 (pv 0) z8)))))),?_⟩
 refine ⟨_,rfl,rfl,_,rfl,?_⟩
 have q':Q (.bl (decide (x=.non)||isB x||qg x (-most) most||Jz x)) H:=q
 refine ite2 (fun c=>?_) (fun c=>?_)
 ·rw [c,Bool.true_or,Bool.true_or,Bool.true_or] at q'
  exact iteT q'
 ·rw [Bool.eq_false_iff.mpr c,Bool.false_or] at q'
  obtain ⟨t2,ty2,k2⟩:=jC (K:=K) (H:=H) hx
  refine ⟨_,rfl,_,"bool",t2,_,rfl,ty2,k2,_,rfl,?_⟩
  refine ite2 (fun c=>?_) (fun c=>?_)
  ·rw [c,Bool.true_or,Bool.true_or] at q'
   exact q'
  ·rw [Bool.eq_false_iff.mpr c,Bool.false_or] at q'
   refine ⟨_,rfl,_,rfl,most,rfl,_,rfl,x,-most,most,rfl,hx,_,rfl,?_⟩
   refine ite2 (fun c=>?_) (fun c=>?_)
   ·rw [c,Bool.true_or] at q'
    exact q'
   ·rw [Bool.eq_false_iff.mpr c,Bool.false_or] at q'
    exact ⟨_,rfl,x,rfl,hx,q'⟩
theorem sc25:zj ["thing"] ["thing"] (zd (top 25)):=fsM
theorem z34 (D:zm K mg "is_pushed" (top 25)) (G:Glo mg) (F1:FN P w K mg base 3 "is_value_within" ["thing","most"] ZR):FN P w K mg base 4 "is_pushed" ["thing"] (sp1 QH):=by
 refine FN.o D sc25 fun f cdv A outer s H vs Q E hr h=>?_
 obtain ⟨x,rfl,hx,q⟩:=h
 refine ⟨_,zf (zk (zu F1 hr rfl (z6 (pv 0) (z6 (qt rfl G.pushed) z8)))),?_⟩
 exact ⟨_,rfl,x,1000000000,rfl,hx,q⟩
theorem sc26:zj ["thing"] ["thing"] (zd (top 26)):=fsM
theorem z38 (D:zm K mg "is_copied" (top 26)) (F1:FN P w K mg base 2 "is_number_within" ["thing","low","high"] j7):FN P w K mg base 3 "is_copied" ["thing"] (sp1 QX):=by
 refine FN.o D sc26 fun f cdv A outer s H vs Q E hr h=>?_
 obtain ⟨x,rfl,hx,q⟩:=h
 refine ⟨_,zf (zk (zu F1 hr rfl (z6 (pv 0) (z6 zh (z6 zh z8))))),?_⟩
 exact ⟨_,rfl,x,1,9,rfl,hx,q⟩
theorem sc27:zj ["thing"] ["thing"] (zd (top 27)):=fsM
theorem z1w (D:zm K mg "is_swapped_with" (top 27)) (F1:FN P w K mg base 2 "is_number_within" ["thing","low","high"] j7):FN P w K mg base 3 "is_swapped_with" ["thing"] (sp1 ZH):=by
 refine FN.o D sc27 fun f cdv A outer s H vs Q E hr h=>?_
 obtain ⟨x,rfl,hx,q⟩:=h
 refine ⟨_,zf (zk (zu F1 hr rfl (z6 (pv 0) (z6 zh (z6 zh z8))))),?_⟩
 exact ⟨_,rfl,x,2,9,rfl,hx,q⟩
theorem sc28:zj ["thing"] ["thing"] (zd (top 28)):=fsM
theorem z60 (D:zm K mg "is_none" (top 28)):FN P w K mg base 1 "is_none" ["thing"] (sp1 z40):=by
 refine FN.o D sc28 fun f cdv A outer s H vs Q E hr h=>?_
 obtain ⟨x,rfl,hx,q⟩:=h
 refine ⟨_,zf (zk (qi jX (pv 0) zF (zt _))),?_⟩
 exact ⟨_,rfl,rfl,q⟩
theorem Zi {α β:Type} (f:α→β) (x:Str):∀l:List (Str × α),(l.map fun p=>(p.1,f p.2)).lookup x=(l.lookup x).map f
 | []=>rfl
 | (k,v) :: r=>by
  rw [kS,List.lookup_cons,List.lookup_cons]
  cases x == k with
  | true=>rfl
  | false=>exact Zi f x r
noncomputable def z26:List (Str × V):=Z9.map fun p=>(p.1,V.str p.2)
theorem ZU (x:Str):z26.lookup x=(qv x).map V.str:=Zi _ _ _
structure Tabs (w:World) (K:ky) (mg:Str→Option Value):Prop where
 sorts:∃d,mg "ARG_SORTS"=some (.ref d)∧KTab w.params K d z26
 tests:∃d f1 f2 f3 f4 f5 f6,mg "ARG_TESTS"=some (.ref d)∧KTab w.params K d [("value",.ref f1),("name",.ref f2),("copied",.ref f3),("swapped",.ref f4),("mark",.ref f5),("none",.ref f6)]∧
  mg "is_pushed"=some (.ref f1)∧mg "is_name"=some (.ref f2)∧mg "is_copied"=some (.ref f3)∧mg "is_swapped_with"=some (.ref f4)∧mg "is_mark"=some (.ref f5)∧mg "is_none"=some (.ref f6)
noncomputable def isOp:V→Bool
 | .str s=>(qv s).isSome
 | _=>false
theorem sc30:zj ["thing"] ["thing"] (zd (top 30)):=fsM
theorem z8z (D:zm K mg "is_op" (top 30)) (G:Glo mg) (T:Tabs w K mg):FN P w K mg base 1 "is_op" ["thing"] (sp1 isOp):=by
 refine FN.o D sc30 fun f cdv A outer s H vs Q E hr h=>?_
 obtain ⟨x,rfl,hx,q⟩:=h
 obtain ⟨d,md,td⟩:=T.sorts
 refine ⟨_,zf (zk (qj (zl zy rfl G.isinstance zi (z6 (pv 0) (z6 (qQ "str" rfl G.str jK) z8))) (qm (z4X (z73 td rfl md (pv 0)))))),?_⟩
 obtain ⟨t1,ty1,k1⟩:=z0V (K:=K) (H:=H) hx
 refine ⟨_,rfl,_,"str",t1,_,rfl,ty1,k1,_,rfl,?_⟩
 cases hx with
 | non=>exact q
 | bl b=>exact q
 | int i=>exact q
 | str z hz=>
  refine ⟨_,rfl,z,rfl,?_⟩
  have q':Q (.bl (qv z).isSome) H:=q
  rw [ZU,Option.isSome_map]
  exact q'
def z1W:Sp:=fun vs H Q _=>∃op s,vs=[.str op]∧qv op=some s∧Q (.str s) H
theorem sc31:zj ["op"] ["op"] (zd (top 31)):=fsM
theorem z5P (D:zm K mg "arg_sort" (top 31)) (T:Tabs w K mg):FN P w K mg base 1 "arg_sort" ["op"] z1W:=by
 refine FN.o D sc31 fun f cdv A outer s H vs Q E hr h=>?_
 obtain ⟨op,so,rfl,hs,q⟩:=h
 obtain ⟨d,md,td⟩:=T.sorts
 refine ⟨_,zf (zk (QK td rfl md (pv 0) (fun _ _=>rfl))),?_⟩
 exact ⟨_,rfl,op,.str so,rfl,by rw [ZU,hs];rfl,q⟩
def z4R:Sp:=fun vs H Q _=>∃op s x,vs=[.str op,x]∧qv op=some s∧Scal x∧Q (.bl (Z2 s x)) H
theorem sc32:zj ["op","arg","fits"] ["op","arg"] (zd (top 32)):=fsM
theorem z5j {op s:Str} (h:qv op=some s):s="value"∨s="name"∨s="copied"∨s="swapped"∨s="mark"∨s="none":=by
 have hm:(op,s)∈Z9:=PySem.mem_of_lookup h
 have all:∀p∈Z9,p.2="value"∨p.2="name"∨p.2="copied"∨p.2="swapped"∨p.2="mark"∨p.2="none":=by trivial
 exact all _ hm
theorem z69 (D:zm K mg "arg_fits" (top 32)) (T:Tabs w K mg) (F1:FN P w K mg base 1 "arg_sort" ["op"] z1W) (A1:FN P w K mg base 4 "is_pushed" ["thing"] (sp1 QH)) (A2:FN P w K mg base 2 "is_name" ["thing"] (sp1 jh))
  (A3:FN P w K mg base 3 "is_copied" ["thing"] (sp1 QX)) (A4:FN P w K mg base 3 "is_swapped_with" ["thing"] (sp1 ZH)) (A5:FN P w K mg base 3 "is_mark" ["thing"] (sp1 z41)) (A6:FN P w K mg base 1 "is_none" ["thing"] (sp1 z40)):
  FN P w K mg base 5 "arg_fits" ["op","arg"] z4R:=by
 refine FN.o D sc32 fun f cdv A outer s H vs Q E hr h=>?_
 obtain ⟨op,so,x,rfl,hs,hx,q⟩:=h
 obtain ⟨d,f1,f2,f3,f4,f5,f6,md,td,m1,m2,m3,m4,m5,m6⟩:=T.tests
 have hr1:=hr.mono (show 1≤4 by decide)
 refine ⟨_,zb (zx (i:=2) sc32.nd rfl (Or.inl rfl) (QK td rfl md (zu F1 hr1 rfl (z6 (pv 0) z8)) (fun _ _=>rfl))) (zf (zk (QM (pv 2) (z6 (pv 1) z8)))),?_⟩
 refine ⟨_,rfl,op,so,rfl,hs,so,?_⟩
 rcases z5j hs with e | e | e | e | e | e
 ·subst e
  obtain ⟨g,gd,mg1,kp,bd,ok⟩:=A1
  cases (kB (m1.symm.trans mg1))
  exact ⟨.ref f1,rfl,by rfl,f1,gd,_,_,4,rfl,kp,ok,hr,bd,_,rfl,x,rfl,hx,q⟩
 ·subst e
  obtain ⟨g,gd,mg1,kp,bd,ok⟩:=A2
  cases (kB (m2.symm.trans mg1))
  exact ⟨.ref f2,rfl,by rfl,f2,gd,_,_,2,rfl,kp,ok,hr.mono (by decide),bd,_,rfl,x,rfl,hx,q⟩
 ·subst e
  obtain ⟨g,gd,mg1,kp,bd,ok⟩:=A3
  cases (kB (m3.symm.trans mg1))
  exact ⟨.ref f3,rfl,by rfl,f3,gd,_,_,3,rfl,kp,ok,hr.mono (by decide),bd,_,rfl,x,rfl,hx,q⟩
 ·subst e
  obtain ⟨g,gd,mg1,kp,bd,ok⟩:=A4
  cases (kB (m4.symm.trans mg1))
  exact ⟨.ref f4,rfl,by rfl,f4,gd,_,_,3,rfl,kp,ok,hr.mono (by decide),bd,_,rfl,x,rfl,hx,q⟩
 ·subst e
  obtain ⟨g,gd,mg1,kp,bd,ok⟩:=A5
  cases (kB (m5.symm.trans mg1))
  exact ⟨.ref f5,rfl,by rfl,f5,gd,_,_,3,rfl,kp,ok,hr.mono (by decide),bd,_,rfl,x,rfl,hx,q⟩
 ·subst e
  obtain ⟨g,gd,mg1,kp,bd,ok⟩:=A6
  cases (kB (m6.symm.trans mg1))
  exact ⟨.ref f6,rfl,by rfl,f6,gd,_,_,1,rfl,kp,ok,hr.mono (by decide),bd,_,rfl,x,rfl,hx,q⟩
def z5e:Sp:=fun vs H Q _=>(vs=[.non]∧Q (.bl false) H)∨∃a op arg line,vs=[.ref a]∧H a=some (.tup [.str op,arg,line])∧op.length≤sizeLine∧Scal arg∧Scal line∧Q (.bl (rowV op arg line)) H
theorem sc33:zj ["thing","op","arg","line"] ["thing"] (zd (top 33)):=fsM
theorem z7x (D:zm K mg "is_row" (top 33)) (G:Glo mg) (F1:FN P w K mg base 1 "is_op" ["thing"] (sp1 isOp)) (F2:FN P w K mg base 5 "arg_fits" ["op","arg"] z4R) (F3:FN P w K mg base 2 "is_number_within" ["thing","low","high"] j7):
  FN P w K mg base 6 "is_row" ["thing"] z5e:=by
 refine FN.of D sc33 (fun _ _ _ _ _ _=>zU1 fun _=>rfl) (fun vs H Q E h=>by rcases h with ⟨rfl,_⟩ | ⟨a,op,arg,line,rfl,_⟩ <;> rfl) (fun f cdv A outer s H vs Q E hr h=>?_)
 refine ⟨_,zb (zJ (PW.pt (jx (qw (zX (zl zy rfl G.isinstance zi (z6 (pv 0) (z6 (qQ "tuple" rfl G.tuple z1F) z8)))))
   (j9 (zn z76 (zl qb rfl G.len zR (z6 (pv 0) z8)) zh (zt _))))) (zf (zk qV)) zq)
  (zb (qO (pv 0) (qU rfl (zp (zw (i:=1) sc33.nd rfl (Or.inl rfl)) (zp (zw (i:=2) sc33.nd rfl (Or.inl rfl)) (zp (zw (i:=3) sc33.nd rfl (Or.inl rfl)) qh)))))
  (zf (zk (qj (zu F1 (hr.mono (by decide)) rfl (z6 (pv 1) z8)) (qj (zu F2 hr rfl (z6 (pv 1) (z6 (pv 2) z8))) (qm (zu F3 (hr.mono (by decide)) rfl (z6 (pv 3) (z6 zh (z6 (qt rfl G.line) z8)))))))))),?_⟩
 rcases h with ⟨rfl,q⟩ | ⟨a,op,arg,line,rfl,ha,hop,harg,hline,q⟩
 ·obtain ⟨t1,ty1,k1⟩:=z1r (K:=K) (H:=H) .non
  exact ⟨_,rfl,_,"tuple",t1,_,rfl,ty1,k1,_,rfl,iteT (iteT q)⟩
 ·refine ⟨_,rfl,_,"tuple",_,true,rfl,.tup ha,rfl,_,rfl,iteF ?_⟩
  refine ⟨_,rfl,a,_,rfl,.inr (SqT.of ha),rfl,_,rfl,iteF ?_⟩
  refine ⟨_,rfl,a,_,rfl,SqT.of ha,rfl,_,_,rfl,_,_,rfl,_,_,rfl,rfl,?_⟩
  refine ⟨_,rfl,_,rfl,.str op hop,_,rfl,?_⟩
  have q':Q (.bl ((qv op).isSome&&Qd op arg&&qg line 0 9999)) H:=q
  cases hs:qv op with
  | none=>
   have e:isOp (.str op)=false:=by show (qv op).isSome=false;rw [hs];rfl
   rw [e]
   rw [hs] at q'
   exact iteF q'
  | some so=>
   have e:isOp (.str op)=true:=by show (qv op).isSome=true;rw [hs];rfl
   have ea:Qd op arg=Z2 so arg:=by unfold Qd;rw [hs]
   rw [e]
   rw [hs,ea] at q'
   refine iteT ⟨_,rfl,_,rfl,op,so,arg,rfl,hs,harg,_,rfl,?_⟩
   refine ite2 (fun c=>?_) (fun c=>?_)
   ·rw [c] at q'
    exact ⟨_,rfl,line,0,9999,rfl,hline,q'⟩
   ·rw [Bool.eq_false_iff.mpr c] at q'
    exact q'
end
structure Row where
 op:Str
 arg:V
 line:Int
noncomputable def tupV (r:Row):List V:=[.str r.op,r.arg,.int r.line]
abbrev zL (H:Hp):List Addr→List Row→Prop:=Paired fun a r=>H a=some (.tup (tupV r))
def ZE (r:Row):Prop:=rowV r.op r.arg (.int r.line)=true
theorem z2h {α β:Type} {F:α→β→Prop} {xs ys:List α} {us vs:List β} (h:Paired F xs us) (k:Paired F ys vs):Paired F (xs++ys) (us++vs):=by
 induction h with
 | nil=>exact k
 | cons r _ ih=>exact .cons r ih
theorem z2g {β:Type} {F:Addr→β→Prop} {as:List Addr} {rs:List β} (h:Paired F as rs):∀{i:Nat} {x:V},(as.map V.ref)[i]?=some x→∃a r,x=.ref a∧rs[i]?=some r∧F a r:=by
 induction h with
 | nil=>intro i x e;simp at e
 | cons r t ih=>
  intro i x e
  cases i with
  | zero=>simp at e;subst e;exact ⟨_,_,rfl,rfl,r⟩
  | succ i=>
   obtain ⟨a,r,h1,h2,h3⟩:=ih (i:=i) (x:=x) (by simpa using e)
   exact ⟨a,r,h1,by simpa using h2,h3⟩
theorem z70 {α β:Type} {F:α→β→Prop} {as:List α} {rs:List β} (h:Paired F as rs):∀{i:Nat} {r:β},rs[i]?=some r→∃a,as[i]?=some a∧F a r:=by
 induction h with
 | nil=>intro i x e;simp at e
 | cons r t ih=>
  intro i x e
  cases i with
  | zero=>simp at e;subst e;exact ⟨_,rfl,r⟩
  | succ i=>
   obtain ⟨a,h2,h3⟩:=ih (i:=i) (by simpa using e)
   exact ⟨a,by simpa using h2,h3⟩
theorem zL.keep {H H':Hp} {as:List Addr} {rs:List Row} (h:zL H as rs) (k:∀a xs,H a=some (.tup xs)→H' a=some (.tup xs)):zL H' as rs:=Paired.mapP h fun _ _ e=>k _ _ e
theorem zL.same {H H':Hp} {as:List Addr} {rs:List Row} (h:zL H as rs) (s:Same H H'):zL H' as rs:=h.keep fun _ _ e=>s _ _ e
theorem zL.get {H:Hp} {as:List Addr} {rs:List Row} {i:Nat} {x:V} (h:zL H as rs) (e:(as.map V.ref)[i]?=some x):∃a r,x=.ref a∧rs[i]?=some r∧H a=some (.tup (tupV r)):=z2g h e
theorem zL.len {H:Hp} {as:List Addr} {rs:List Row} (h:zL H as rs):as.length=rs.length:=Paired.length h
theorem zg {H:Hp} {p:Addr} (h:H p=none) (o:HO):Same H (upd H p o):=fun b u q=>by rw [ze (zc q h)];exact q
theorem Same.upd {H H2:Hp} {p:Addr} (s:Same H H2) (h:H p=none) (o:HO):Same H (upd H2 p o):=fun b u q=>by rw [ze (zc q h)];exact s b u q
theorem z3V {op s:Str} (h:qv op=some s):op.length≤7:=by
 have hm:(op,s)∈Z9:=PySem.mem_of_lookup h
 have all:∀p∈Z9,p.1.length≤7:=by trivial
 exact all _ hm
theorem Jf {n:Nat} (h:n≤1000):n≤sizeLine:=Nat.le_of_lt (zV h)
theorem Zx {x:V} {m:Int} (h:jB x m=true) (hm:m≤100):Scal x:=by
 cases x with
 | str s=>
  have h:(decide ((1:Int)≤(s.length:Int))&&decide ((s.length:Int)≤m)&&Txt.isascii s&&Txt.isalpha s)=true:=h
  simp only [yc,yd] at h
  exact .str s (Jf (by lia))
 | _=>cases h
theorem qo {x:V} {lo hi:Int} (h:qg x lo hi=true):∃i,x=.int i∧lo≤i∧i≤hi:=by
 cases x with
 | int i=>
  have h:(decide (lo≤i)&&decide (i≤hi))=true:=h
  simp only [yc,yd] at h
  exact ⟨i,rfl,h.1,h.2⟩
 | _=>cases h
theorem z39 {s:Str} {x:V} (h:Z2 s x=true):Scal x:=by
 unfold Z2 at h
 split at h
 ·unfold QH j6 at h
  simp only [Bool.or_eq_true,yd] at h
  rcases h with ((h | h) | h) | h
  ·subst h;exact .non
  ·cases x with
   | bl b=>exact .bl b
   | _=>cases h
  ·obtain ⟨i,rfl,_⟩:=qo h;exact .int i
  ·exact Zx h (by decide)
 ·split at h
  ·unfold jh at h
   simp only [yc] at h
   exact Zx h.1 (by decide)
  ·split at h
   ·obtain ⟨i,rfl,_⟩:=qo h;exact .int i
   ·split at h
    ·obtain ⟨i,rfl,_⟩:=qo h;exact .int i
    ·split at h
     ·obtain ⟨i,rfl,_⟩:=qo h;exact .int i
     ·unfold z40 at h
      simp only [yd] at h
      subst h;exact .non
theorem ZE.parts {r:Row} (h:ZE r):∃s,qv r.op=some s∧Z2 s r.arg=true∧0≤r.line∧r.line≤9999∧r.op.length≤sizeLine∧Scal r.arg:=by
 unfold ZE rowV at h
 simp only [yc] at h
 obtain ⟨⟨h1,h2⟩,h3⟩:=h
 obtain ⟨s,hs⟩:=Option.isSome_iff_exists.mp h1
 have h2':Z2 s r.arg=true:=by unfold Qd at h2;rw [hs] at h2;exact h2
 obtain ⟨i,e,l1,l2⟩:=qo h3
 cases e
 exact ⟨s,hs,h2',l1,l2,Jf (ku (z3V hs) (by decide)),z39 h2'⟩
theorem jZ {x:V} (h:Z2 "mark" x=true):∃m:Int,x=.int m∧0≤m∧m≤99:=by
 have e:Z2 "mark" x=z41 x:=by
  unfold Z2
  rw [kz (by trivial),kz (by trivial),kz (by trivial),kz (by trivial),kA rfl]
 rw [e] at h
 exact qo h
noncomputable def labP (m:Int) (r:Row):Bool:=decide (r.op="label")&&decide (r.arg=.int m)
noncomputable def zM (rs:List Row) (m:Int):Option Nat:=rs.findIdx? (labP m)
noncomputable def js (rs:List Row) (i:Nat) (r:Row):Bool:=
 if r.op="label" then (match r.arg with | .int m=>decide (zM rs m=some i) | _=>false)
 else if qv r.op=some ("mark":Str) then (match r.arg with | .int m=>(zM rs m).isSome | _=>false) else true
def Zr (kvs:List (Key × V)) (rs:List Row):Prop:=∀m:Int,valV kvs (Sum.inl m:Key)=Option.map (fun i:Nat=>V.int (i:Int)) (zM rs m)
section
def Jb (K:ky):Sp:=fun vs H Q _=>∃l as rs,vs=[.ref l]∧SqL K H l (as.map V.ref)∧zL H as rs∧(∀r∈rs,ZE r)∧rs.length≤1000∧
 ∀d kvs H',H d=none→Same H H'→H' d=some (.dK kvs)→Zr kvs rs→Q (.ref d) H'
theorem sc34:zj ["rows","places","place","row"] ["rows"] (zd (top 34)):=fsM
theorem qI {α:Type} {l:List α} {i:Nat} {x:α} (h:l[i]?=some x):l.take (i+1)=l.take i++[x]:=by
 rw [List.take_add_one,h]
 rfl
theorem QQ {rs:List Row} {i:Nat} {r:Row} (h:rs[i]?=some r) (m:Int):zM (rs.take (i+1)) m=(zM (rs.take i) m).or (if labP m r=true then some i else none):=by
 have hl:(rs.take i).length=i:=by
  rw [List.length_take]
  have:=(kf.mp h).1
  lia
 unfold zM
 rw [qI h,List.findIdx?_append,hl]
 congr 1
 rw [List.findIdx?_cons]
 by_cases c:labP m r=true
 ·rw [kA c,kA c];simp
 ·rw [kz c,kz c];simp
theorem z66 (D:zm K mg "label_places" (top 34)) (G:Glo mg) (FR:FN P w K mg base 6 "is_row" ["thing"] z5e):FN P w K mg base 7 "label_places" ["rows"] (Jb K):=by
 refine FN.o D sc34 fun f cdv A outer s H vs Q E hr h=>?_
 obtain ⟨l,as,rs,rfl,hS,hR,hok,hlen,q⟩:=h
 refine ⟨_,zb (zx (i:=1) sc34.nd rfl (Or.inl rfl) z0P)
  (zb (Qn PassesOwn.never rfl (z2l rfl G.enumerate (z6 (pv 0) z8)) (qU rfl (zp (zw (i:=2) sc34.nd rfl (Or.inl rfl)) (zp (zw (i:=3) sc34.nd rfl (Or.inl rfl)) qh)))
   (zf (zJ (PW.pt (ZV (zX (zu FR hr rfl (z6 (pv 3) z8))) (jO (zn qC (zS qp (pv 3) zh (fun _ _=>rfl)) zo (zt _)))))
    (zf (zH (z2m (pv 1) (zS qp (pv 3) zh (fun _ _=>rfl)) (pv 2) ⟨rfl,rfl,rfl,rfl⟩))) zq)))
  (zf (zk (pv 1)))),?_⟩
 intro d hd
 have hll:as.length=rs.length:=hR.len
 have hml:(as.map V.ref).length=rs.length:=by rw [kj];exact hll
 refine ⟨_,rfl,l,rfl,⟨_,(zg hd _).seq hS⟩,z10 (K:=K) (a:=l) (xs:=as.map V.ref) (fun i σ H2=>∃kvs v2 v3,σ=[some (.ref l),some (.ref d),v2,v3]∧Same H H2∧H2 d=some (.dK kvs)∧kvs.length≤i∧Zr kvs (rs.take i))
  ⟨[],none,none,rfl,zg hd _,z7,ke _,fun m=>by rw [List.take_zero];rfl⟩ (fun i σ H2 _ ⟨_,_,_,_,s2,_⟩=>s2.seq hS) ?_ ?_⟩
 ·rintro i x σ H2 p hi ⟨kvs,v2,v3,rfl,s2,hD,hk,hL⟩ hp
  obtain ⟨a,r,rfl,hr1,ha⟩:=(hR.same s2).get hi
  have hil:i < rs.length:=(kf.mp hr1).1
  have npd:d≠p:=zc hD hp
  have nap:a≠p:=zc ha hp
  have ha':(upd H2 p (.tup [.int i,.ref a])) a=some (.tup (tupV r)):=by rw [ze nap];exact ha
  have s3:Same H (upd H2 p (.tup [.int i,.ref a])):=fun b o e=>by rw [ze (zc (s2 b o e) hp)];exact s2 b o e
  obtain ⟨so,hs,hfit,hl0,hl1,hop,hsc⟩:=(hok r (kG hr1)).parts
  have hrow:rowV r.op r.arg (.int r.line)=true:=hok r (kG hr1)
  refine ⟨p,_,rfl,SqT.of z7,rfl,_,_,rfl,_,_,rfl,rfl,?_⟩
  refine ⟨_,rfl,.inr ⟨a,r.op,r.arg,.int r.line,rfl,ha',hop,hsc,.int _,_,rfl,?_⟩⟩
  rw [hrow]
  refine iteT ⟨_,rfl,a,_,_,_,rfl,rfl,SqT.of ha',zr (j:=0) rfl,rfl,_,rfl,?_⟩
  have hD':(upd H2 p (.tup [.int i,.ref a])) d=some (.dK kvs):=by rw [ze npd];exact hD
  refine ite2 (fun c=>?_) (fun c=>?_)
  ·have eop:r.op="label":=by
    have:=kC c
    injection this
   have esort:so="mark":=by
    rw [eop] at hs
    have:qv "label"=some "mark":=by trivial
    rw [this] at hs
    exact (kB hs).symm
   rw [esort] at hfit
   obtain ⟨m,em,_,_⟩:=jZ hfit
   refine ⟨_,rfl,d,rfl,.inl ⟨kvs,.inl hD'⟩,_,rfl,a,_,_,_,rfl,rfl,SqT.of ha',zr (j:=1) rfl,_,rfl,kvs,Sum.inl m,hD',em,zV (by lia),?_⟩
   have eP:labP m r=true:=by unfold labP;rw [eop,em];simp
   cases hv:valV kvs (Sum.inl m:Key) with
   | some v=>
    refine ⟨kvs,_,_,rfl,s3,hD',by lia,fun m'=>?_⟩
    rw [QQ hr1 m',hL m']
    by_cases e:m'=m
    ·subst e
     have:=hL m'
     rw [hv] at this
     cases h1:zM (rs.take i) m' with
     | none=>rw [h1] at this;cases this
     | some j=>rfl
    ·have:labP m' r=false:=by
      unfold labP
      rw [em]
      have:¬(V.int m=V.int m'):=fun z=>e (by injection z with z;exact z.symm)
      simp [this]
     rw [this]
     simp
   | none=>
    refine ⟨putK kvs (Sum.inl m) (.int i),_,_,rfl,fun b o e=>?_,z7,?_,fun m'=>?_⟩
    ·rw [ze (zc e hd)]
     exact s3 b o e
    ·have:=qF kvs (Sum.inl m:Key) (V.int i)
     lia
    ·rw [QC,QQ hr1 m']
     by_cases e:m'=m
     ·subst e
      have:=hL m'
      rw [hv] at this
      rw [kA rfl,eP,kA rfl]
      cases h1:zM (rs.take i) m' with
      | none=>rfl
      | some j=>rw [h1] at this;cases this
     ·have:labP m' r=false:=by
       unfold labP
       rw [em]
       have:¬(V.int m=V.int m'):=fun z=>e (by injection z with z;exact z.symm)
       simp [this]
      rw [this,kz (fun z=>e (by injection z)),hL m']
      simp
  ·refine ⟨kvs,_,_,rfl,s3,hD',by lia,fun m'=>?_⟩
   rw [QQ hr1 m',hL m']
   have:labP m' r=false:=by
    unfold labP
    have:¬(r.op="label"):=fun z=>c (by rw [z];rfl)
    simp [this]
   rw [this]
   simp
 ·rintro σ H2 ⟨kvs,v2,v3,rfl,s2,hD,hk,hL⟩
  refine ⟨_,rfl,q d kvs H2 hd s2 hD ?_⟩
  rw [hml,List.take_length] at hL
  exact hL
end
section
def z4P:Sp:=fun vs H Q _=>∃a i d r kvs rs,vs=[.ref a,.int (i:Nat),.ref d]∧H a=some (.tup (tupV r))∧ZE r∧H d=some (.dK kvs)∧Zr kvs rs∧(∀m:Int,r.op="label"→r.arg=.int m→(zM rs m).isSome=true)∧Q (.bl (js rs i r)) H
theorem sc35:zj ["row","place","labels","op","mark"] ["row","place","labels"] (zd (top 35)):=fsM
theorem z1p:qv "label"=some "mark":=by trivial
theorem JO (D:zm K mg "mark_fits" (top 35)) (FS:FN P w K mg base 1 "arg_sort" ["op"] z1W):FN P w K mg base 2 "mark_fits" ["row","place","labels"] z4P:=by
 refine FN.o D sc35 fun f cdv A outer s H vs Q E hr h=>?_
 obtain ⟨a,i,d,r,kvs,rs,rfl,ha,hok,hd,hL,hlab,q⟩:=h
 have hu:=Zl hr
 obtain ⟨so,hs,hfit,hl0,hl1,hop,hsc⟩:=hok.parts
 refine ⟨_,zb (Ji (i:=3) (j:=4) rfl sc35.nd rfl rfl (by decide) rfl rfl (z6 (zS qp (pv 0) zh (fun _ _=>rfl)) (z6 (zS qp (pv 0) zh (fun _ _=>rfl)) z8)) rfl)
  (zb (zJ (zn qC (pv 3) zo (zt _)) (zf (zk (qi qC (jy hu (pv 2) (pv 4) (fun _ _=>rfl)) (pv 1) (zt _)))) zq)
  (zf (zk (z3P (qi z76 (zu FS hr rfl (z6 (pv 3) z8)) zo (zt _)) (qm (z4X (z74 hu (pv 4) (pv 2)))))))),?_⟩
 refine ⟨_,rfl,a,_,_,_,rfl,rfl,SqT.of ha,zr (j:=0) rfl,_,rfl,a,_,_,_,rfl,rfl,SqT.of ha,zr (j:=1) rfl,_,_,rfl,?_⟩
 refine ⟨_,rfl,rfl,_,rfl,?_⟩
 refine ite2 (fun c=>?_) (fun c=>?_)
 ·have eop:r.op="label":=by
   have:=kC c
   injection this
  have esort:so="mark":=by
   rw [eop,z1p] at hs
   exact (kB hs).symm
  rw [esort] at hfit
  obtain ⟨m,em,_,_⟩:=jZ hfit
  obtain ⟨j,hj⟩:=Option.isSome_iff_exists.mp (hlab m eop em)
  have hv:valV kvs (Sum.inl m:Key)=some (.int (j:Int)):=by rw [hL m,hj];rfl
  have hg:DGet H d r.arg (some (.int (j:Int))):=by rw [em,←hv];exact DGet.k (k:=Sum.inl m) hd
  refine ⟨_,rfl,_,rfl,d,_,rfl,hg,_,rfl,rfl,?_⟩
  have e:js rs i r=decide (V.int (j:Int)=V.int (i:Int)):=by
   unfold js
   rw [kA eop,em]
   show decide (zM rs m=some i)=_
   rw [hj]
   by_cases z:j=i
   ·subst z;simp
   ·rw [kh (fun y=>z (by injection y)),kh (fun y=>z (by injection y with y;lia))]
  rw [e] at q
  exact q
 ·have eop:¬r.op="label":=fun z=>c (by rw [z];rfl)
  refine ⟨_,rfl,r.op,so,rfl,hs,rfl,_,rfl,?_⟩
  unfold js at q
  rw [kz eop,hs] at q
  by_cases e:so="mark"
  ·subst e
   rw [kA rfl] at q
   obtain ⟨m,em,_,_⟩:=jZ hfit
   have e1:(!decide (V.str "mark"=V.str "mark"))=false:=by trivial
   rw [e1]
   refine iteF ⟨_,rfl,_,rfl,d,Option.map (fun i:Nat=>V.int (i:Int)) (zM rs m),rfl,?_,?_⟩
   ·have:DGet H d r.arg (Option.map (fun i:Nat=>V.int (i:Int)) (zM rs m)):=by
     rw [em,←hL m]
     exact DGet.k (k:=Sum.inl m) hd
    exact this
   ·rw [em] at q
    rw [Option.isSome_map]
    exact q
  ·rw [kz (fun z=>e (kB z))] at q
   have e1:(!decide (V.str so=V.str "mark"))=true:=by
    rw [kh (fun z=>e (by injection z))]
    rfl
   rw [e1]
   exact iteT q
def z6O (K:ky):Sp:=fun vs H Q _=>∃l as rs,vs=[.ref l]∧SqL K H l (as.map V.ref)∧zL H as rs∧(∀r∈rs,ZE r)∧rs.length≤1000∧
 (∀H',Same H H'→(∀i r,rs[i]?=some r→js rs i r=true)→Q .non H')∧
 (∀(i:Nat) r H',Same H H'→rs[i]?=some r→js rs i r=false→(∀j r',j < i→rs[j]?=some r'→js rs j r'=true)→Q (.int i) H')
theorem sc36:zj ["rows","labels","place","row"] ["rows"] (zd (top 36)):=fsM
theorem z0r {rs:List Row} {i:Nat} {r:Row} {m:Int} (h:rs[i]?=some r) (h1:r.op="label") (h2:r.arg=.int m):(zM rs m).isSome=true:=by
 unfold zM
 rw [List.findIdx?_isSome,List.any_eq_true]
 exact ⟨r,kG h,by unfold labP;rw [h1,h2];simp⟩
theorem z7E (D:zm K mg "first_bad_place" (top 36)) (G:Glo mg) (FR:FN P w K mg base 6 "is_row" ["thing"] z5e) (FL:FN P w K mg base 7 "label_places" ["rows"] (Jb K)) (FM:FN P w K mg base 2 "mark_fits" ["row","place","labels"] z4P):
  FN P w K mg base 8 "first_bad_place" ["rows"] (z6O K):=by
 refine FN.o D sc36 fun f cdv A outer s H vs Q E hr h=>?_
 obtain ⟨l,as,rs,rfl,hS,hR,hok,hlen,q1,q2⟩:=h
 refine ⟨_,zb (zx (i:=1) sc36.nd rfl (Or.inl rfl) (zu FL hr rfl (z6 (pv 0) z8)))
  (zb (Qn PassesOwn.never rfl (z2l rfl G.enumerate (z6 (pv 0) z8)) (qU rfl (zp (zw (i:=2) sc36.nd rfl (Or.inl rfl)) (zp (zw (i:=3) sc36.nd rfl (Or.inl rfl)) qh)))
   (zf (zJ (PW.pt (jx (qw (zX (zu FR (hr.mono (by decide)) rfl (z6 (pv 3) z8)))) (j9 (qw (zX (zu FM (hr.mono (by decide)) rfl (z6 (pv 3) (z6 (pv 2) (z6 (pv 1) z8)))))))))
    (zf (zk (pv 2))) zq)))
  (zf (zk zF))),?_⟩
 refine ⟨_,rfl,l,as,rs,rfl,hS,hR,hok,hlen,fun d kvs H1 hd0 s1 hD hL=>?_⟩
 have hll:as.length=rs.length:=hR.len
 have hml:(as.map V.ref).length=rs.length:=by rw [kj];exact hll
 refine ⟨_,rfl,l,rfl,⟨_,s1.seq hS⟩,z10 (K:=K) (a:=l) (xs:=as.map V.ref) (fun i σ H2=>∃v2 v3,σ=[some (.ref l),some (.ref d),v2,v3]∧Same H1 H2∧∀j r',j < i→rs[j]?=some r'→js rs j r'=true)
  ⟨none,none,rfl,Same.refl _,fun j _ hj=>absurd hj (Nat.not_lt_zero _)⟩ (fun i σ H2 _ ⟨_,_,_,s2,_⟩=>s2.seq (s1.seq hS)) ?_ ?_⟩
 ·rintro i x σ H2 p hi ⟨v2,v3,rfl,s2,hall⟩ hp
  obtain ⟨a,r,rfl,hr1,ha⟩:=((hR.same s1).same s2).get hi
  have hD2:=s2 _ _ hD
  have npd:d≠p:=zc hD2 hp
  have nap:a≠p:=zc ha hp
  have ha':(upd H2 p (.tup [.int i,.ref a])) a=some (.tup (tupV r)):=by rw [ze nap];exact ha
  have hD':(upd H2 p (.tup [.int i,.ref a])) d=some (.dK kvs):=by rw [ze npd];exact hD2
  have s3:Same H1 (upd H2 p (.tup [.int i,.ref a])):=fun b o e=>by rw [ze (zc (s2 b o e) hp)];exact s2 b o e
  have hro:=hok r (kG hr1)
  obtain ⟨so,hs,hfit,hl0,hl1,hop,hsc⟩:=hro.parts
  refine ⟨p,_,rfl,SqT.of z7,rfl,_,_,rfl,_,_,rfl,rfl,?_⟩
  refine ⟨_,rfl,.inr ⟨a,r.op,r.arg,.int r.line,rfl,ha',hop,hsc,.int _,_,rfl,?_⟩⟩
  have hrow:rowV r.op r.arg (.int r.line)=true:=hro
  rw [hrow]
  refine iteF ⟨_,rfl,_,rfl,_,rfl,a,i,d,r,kvs,rs,rfl,ha',hro,hD',hL,(fun m h1 h2=>z0r hr1 h1 h2),_,rfl,?_⟩
  cases hb:js rs i r with
  | true=>
   refine iteF ⟨_,_,rfl,s3,fun j r' hj hr'=>?_⟩
   by_cases e:j=i
   ·subst e
    rw [hr1] at hr'
    cases hr'
    exact hb
   ·exact hall j r' (by lia) hr'
  | false=>exact iteT ⟨_,rfl,q2 i r _ (s1.trans s3) hr1 hb hall⟩
 ·rintro σ H2 ⟨v2,v3,rfl,s2,hall⟩
  refine q1 H2 (s1.trans s2) fun i r hir=>hall i r ?_ hir
  rw [hml]
  exact (kf.mp hir).1
def z6N:Sp:=fun vs H Q _=>∃l xs,vs=[.ref l]∧H l=some (.lst xs)∧1≤xs.length∧xs.length≤150∧Q (.bl true) H
theorem sc37:zj ["thing"] ["thing"] (zd (top 37)):=fsM
theorem z7D (D:zm K mg "has_places" (top 37)) (G:Glo mg):FN P w K mg base 1 "has_places" ["thing"] z6N:=by
 refine FN.o D sc37 fun f cdv A outer s H vs Q E hr h=>?_
 obtain ⟨l,xs,rfl,hl,h1,h2,q⟩:=h
 refine ⟨_,zf (zk (qj (zl zy rfl G.isinstance zi (z6 (pv 0) (z6 (qQ "list" rfl G.list Z5) z8)))
  (qm (jI Zh Zh zh (zl qb rfl G.len zR (z6 (pv 0) z8)) (qt rfl G.rows))))),?_⟩
 refine ⟨_,rfl,_,"list",_,true,rfl,.lst hl,rfl,_,rfl,iteT ?_⟩
 refine ⟨_,rfl,l,_,rfl,.inl (SqL.of hl),_,_,rfl,rfl,_,rfl,?_⟩
 have e1:decide ((1:Int)≤(xs.length:Int))=true:=ki (by lia)
 have e2:decide ((xs.length:Int)≤150)=true:=ki (by lia)
 rw [e1]
 refine iteT ⟨_,_,rfl,rfl,?_⟩
 show Q (.bl (decide ((xs.length:Int)≤150))) H
 rw [e2]
 exact q
structure Code (rs:List Row):Prop where
 ok:∀r∈rs,ZE r
 fit:∀i r,rs[i]?=some r→js rs i r=true
 lo:1≤rs.length
 hi:rs.length≤150
def z0a:Sp:=fun vs H Q _=>∃l as rs,vs=[.ref l]∧H l=some (.lst (as.map V.ref))∧zL H as rs∧Code rs∧∀H',Same H H'→Q .non H'
theorem sc38:zj ["thing","place"] ["thing"] (zd (top 38)):=fsM
theorem z4y (D:zm K mg "check_code" (top 38)) (FH:FN P w K mg base 1 "has_places" ["thing"] z6N) (FB:FN P w K mg base 8 "first_bad_place" ["rows"] (z6O K)):FN P w K mg base 9 "check_code" ["thing"] z0a:=by
 refine FN.o D sc38 fun f cdv A outer s H vs Q E hr h=>?_
 obtain ⟨l,as,rs,rfl,hl,hR,hC,q⟩:=h
 refine ⟨_,zb (zJ (qw (zX (zu FH (hr.mono (by decide)) rfl (z6 (pv 0) z8)))) zP zq)
  (zb (zx (i:=1) sc38.nd rfl (Or.inl rfl) (zu FB hr rfl (z6 (pv 0) z8)))
  (zf (zJ (zn Zg (pv 1) zF (zt _)) zP zq))),?_⟩
 have hll:as.length=rs.length:=hR.len
 refine ⟨_,rfl,l,_,rfl,hl,by rw [kj,hll];exact hC.lo,by rw [kj,hll];exact hC.hi,_,rfl,iteF ?_⟩
 refine ⟨_,rfl,l,as,rs,rfl,SqL.of hl,hR,hC.ok,ku hC.hi (by decide),fun H' s' _=>?_,fun i r H' s' hi hf _=>?_⟩
 ·exact ⟨_,rfl,rfl,_,rfl,iteF (q H' s')⟩
 ·rw [hC.fit i r hi] at hf
  cases hf
end
noncomputable def ZG:List (Str × Int):=[("store",1),("drop",1),("add",2),("sub",2),("mul",2),("div",2),("rest",2),("less",2),("same",2),("neg",1),("not",1),("tell",1),("iftrue",1),("iffalse",1),("ortrue",1),("orfalse",1),("return",1),("raise",1)]
noncomputable def ZW:List (Str × Int):=[("push",1),("load",1),("quick",1),("copy",1),("add",1),("sub",1),("mul",1),("div",1),("rest",1),("less",1),("same",1),("neg",1),("not",1)]
noncomputable def jc:List (Str × Int):=[("try",1),("endtry",-1)]
noncomputable def jumping:List Str:=["jump","iftrue","iffalse","ortrue","orfalse"]
noncomputable def leaving:List Str:=["ortrue","orfalse"]
noncomputable def jA:List Str:=["jump","return","raise"]
noncomputable def faulting:List Str:=["load","clear","add","sub","mul","div","rest","less","neg","raise"]
noncomputable def JF (t:List (Str × Int)):List (Str × V):=t.map fun p=>(p.1,V.int p.2)
noncomputable def tabI (t:List (Str × Int)) (x:Str):Int:=(t.lookup x).getD 0
theorem Z1 (t:List (Str × Int)) (x:Str):((JF t).lookup x).getD (.int 0)=.int (tabI t x):=by
 unfold JF tabI
 rw [Zi]
 cases t.lookup x <;> rfl
def KTup (K:ky) (a:Addr) (xs:List V):Prop:=
 ∃(o:Obj) (its:Array Value) (n:Nat),K.lookup a=some o∧o.cls=.type "tuple"∧o.data=.seq its n∧its.size≤sizeLine∧Vals xs its.toList
theorem KTup.sq {K:ky} {a:Addr} {xs:List V} (h:KTup K a xs) (H:Hp):SqT K H a xs:=.inr h
structure z3r (w:World) (K:ky) (mg:Str→Option Value):Prop where
 takes:∃d,mg "TAKES"=some (.ref d)∧KTab w.params K d (JF ZG)
 pushes:∃d,mg "PUSHES"=some (.ref d)∧KTab w.params K d (JF ZW)
 gput:∃d,mg "GUARDS_PUT"=some (.ref d)∧KTab w.params K d (JF jc)
 jumping:∃a,mg "JUMPING"=some (.ref a)∧KTup K a (jumping.map V.str)
 leaving:∃a,mg "LEAVING"=some (.ref a)∧KTup K a (leaving.map V.str)
 never:∃a,mg "NEVER_ON"=some (.ref a)∧KTup K a (jA.map V.str)
 faulting:∃a,mg "FAULTING"=some (.ref a)∧KTup K a (faulting.map V.str)
 first:∃a g,mg "FIRST_STATE"=some (.ref a)∧KTup K a [.int 0,.ref g]∧KTup K g []
noncomputable def inT (x:Str) (l:List Str):Bool:=inV (.str x) (l.map V.str)
theorem Zk {x:Str} {l:List Str}:inT x l=true↔x∈l:=by
 unfold inT inV
 rw [List.any_map,List.any_eq_true]
 constructor
 ·rintro ⟨y,hy,e⟩
  have e:(y == x)=true:=e
  rw [beq_iff_eq] at e
  exact e▸hy
 ·exact fun h=>⟨x,h,by show (x == x)=true;simp⟩
theorem jD (l:List Str):(l.map V.str).all ZB=true:=by
 rw [List.all_map,List.all_eq_true]
 exact fun _ _=>rfl
noncomputable def Zn:List Str:=["copy","swap"]
noncomputable def Qc (r:Row):Int:=if inT r.op Zn=true then (match r.arg with | .int n=>n | _=>0) else tabI ZG r.op
abbrev Gd:=Int × Int
def jF (H:Hp) (x:V):Option Gd→Prop
 | none=>x=.non
 | some g=>∃a,x=.ref a∧H a=some (.tup [.int g.1,.int g.2])
theorem jF.same {H H':Hp} {x:V} {og:Option Gd} (h:jF H x og) (s:Same H H'):jF H' x og:=by
 cases og with
 | none=>exact h
 | some g=>
  obtain ⟨a,e,h⟩:=h
  exact ⟨a,e,s _ _ h⟩
noncomputable def Jv (r:Row) (og:Option Gd):Bool:=decide (r.op="endtry")&&og.isNone
noncomputable def Qa (r:Row) (d:Int) (og:Option Gd):Bool:=match og with
 | none=>false
 | some g=>if r.op="copy" then false else decide ((if d - Qc r > 0 then d - Qc r else 0) < (if g.2 < d then g.2 else d))
theorem z1D {r:Row} (hok:ZE r) (h:inT r.op Zn=true):∃n:Int,r.arg=.int n∧1≤n∧n≤9:=by
 obtain ⟨s,hs,hfit,_⟩:=hok.parts
 rw [Zk] at h
 rcases kD.mp h with h | h
 ·rw [h,show qv "copy"=some "copied" by trivial] at hs
  cases hs
  have e:Z2 "copied" r.arg=QX r.arg:=by
   unfold Z2
   rw [kz (by trivial),kz (by trivial),kA rfl]
  rw [e] at hfit
  exact qo hfit
 ·rw [ko.mp h,show qv "swap"=some "swapped" by trivial] at hs
  cases hs
  have e:Z2 "swapped" r.arg=ZH r.arg:=by
   unfold Z2
   rw [kz (by trivial),kz (by trivial),kz (by trivial),kA rfl]
  rw [e] at hfit
  obtain ⟨n,h1,h2,h3⟩:=qo hfit
  exact ⟨n,h1,by lia,h3⟩
theorem qJ {K:ky} {H H':Hp} {a:Addr} {xs:List V} (s:Same H H') (h:SqT K H a xs):SqT K H' a xs:=by
 rcases h with (h | ⟨o,h⟩) | h
 ·exact .inl (.inl (s _ _ h))
 ·exact .inl (.inr ⟨o,s _ _ h⟩)
 ·exact .inr h
section
def spUp (K:ky):Sp:=fun vs H Q _=>∃(g:Addr) (as:List Addr),vs=[.ref g]∧SqT K H g (as.map V.ref)∧((as=[]∧Q .non H)∨∃bs a,as=bs++[a]∧Q (.ref a) H)
theorem sc48:zj ["guards"] ["guards"] (zd (top 48)):=fsM
theorem z8w (D:zm K mg "uppermost" (top 48)):FN P w K mg base 1 "uppermost" ["guards"] (spUp K):=by
 refine FN.o D sc48 fun f cdv A outer s H vs Q E hr h=>?_
 obtain ⟨g,as,rfl,hS,q⟩:=h
 refine ⟨_,zf (zk (qG (jH (pv 0) (fun _=>rfl)) (zS qp (pv 0) (jP qS zh) (fun _ _=>rfl)) zF)),?_⟩
 rcases q with ⟨rfl,q⟩ | ⟨bs,a,rfl,q⟩
 ·exact ⟨_,rfl,false,.inr (.inl ⟨_,hS,rfl⟩),iteF q⟩
 ·refine ⟨_,rfl,true,.inr (.inl ⟨_,hS,by simp⟩),iteT ⟨_,rfl,1,rfl,g,_,_,.ref a,rfl,rfl,hS,?_,q⟩⟩
  rw [kJ]
  exact z16 _ _
def z0b:Sp:=fun vs H Q _=>∃a r,vs=[.ref a]∧H a=some (.tup (tupV r))∧ZE r∧∀H',Same H H'→Q (.int (Qc r)) H'
theorem sc49:zj ["row","op","arg"] ["row"] (zd (top 49)):=fsM
theorem z4z (D:zm K mg "depth_asked" (top 49)) (T:z3r w K mg):FN P w K mg base 1 "depth_asked" ["row"] z0b:=by
 refine FN.o D sc49 fun f cdv A outer s H vs Q E hr h=>?_
 obtain ⟨a,r,rfl,ha,hok,q⟩:=h
 obtain ⟨d,md,td⟩:=T.takes
 refine ⟨_,zb (Ji (i:=1) (j:=2) rfl sc49.nd rfl rfl (by decide) rfl rfl (z6 (zS qp (pv 0) zh (fun _ _=>rfl)) (z6 (zS qp (pv 0) zh (fun _ _=>rfl)) z8)) rfl)
  (zf (zk (qG (zn qW (pv 1) (zB (z6 zo (z6 zo z8))) rfl) (pv 2) (ZK td rfl md (pv 1) zh ⟨rfl,rfl,rfl,rfl⟩)))),?_⟩
 refine ⟨_,rfl,a,_,_,_,rfl,rfl,SqT.of ha,zr (j:=0) rfl,_,rfl,a,_,_,_,rfl,rfl,SqT.of ha,zr (j:=1) rfl,_,_,rfl,?_⟩
 refine ⟨_,rfl,by show 2≤sizeLine;decide,fun p hp=>?_⟩
 have s1:=zg hp (.tup (Zn.map V.str))
 refine ⟨p,_,rfl,.inr (SqT.of (xs:=Zn.map V.str) z7),rfl,jD _,_,rfl,?_⟩
 have q:=q _ s1
 unfold Qc at q
 refine ite2 (fun c=>?_) (fun c=>?_)
 ·have c':inT r.op Zn=true:=c
  obtain ⟨n,en,_⟩:=z1D hok c'
  rw [kA c',en] at q
  refine ⟨r.arg,rfl,?_⟩
  rw [en]
  exact q
 ·have c':¬inT r.op Zn=true:=c
  rw [kz c'] at q
  refine ⟨_,rfl,r.op,rfl,?_⟩
  rw [Z1]
  exact q
def z08:Sp:=fun vs H Q _=>∃a r d,vs=[.ref a,.int d]∧H a=some (.tup (tupV r))∧ZE r∧∀H',Same H H'→Q (.bl (decide (d < Qc r))) H'
theorem sc50:zj ["row","depth"] ["row","depth"] (zd (top 50)):=fsM
theorem z4r (D:zm K mg "lacks_values" (top 50)) (F1:FN P w K mg base 1 "depth_asked" ["row"] z0b):FN P w K mg base 2 "lacks_values" ["row","depth"] z08:=by
 refine FN.o D sc50 fun f cdv A outer s H vs Q E hr h=>?_
 obtain ⟨a,r,d,rfl,ha,hok,q⟩:=h
 refine ⟨_,zf (zk (qi z3W (pv 1) (zu F1 hr rfl (z6 (pv 0) z8)) (zt _))),?_⟩
 exact ⟨_,rfl,_,rfl,a,r,rfl,ha,hok,fun H' s'=>⟨_,_,rfl,rfl,q H' s'⟩⟩
def z09:Sp:=fun vs H Q _=>∃a r gv og,vs=[.ref a,gv]∧H a=some (.tup (tupV r))∧jF H gv og∧Q (.bl (Jv r og)) H
theorem sc51:zj ["row","guard"] ["row","guard"] (zd (top 51)):=fsM
theorem z2O {H:Hp} {x:V} {og:Option Gd} (h:jF H x og):decide (x=.non)=og.isNone:=by
 cases og with
 | none=>rw [show x=.non from h];rfl
 | some g=>obtain ⟨a,e,_⟩:=h;rw [e];rfl
theorem z4s (D:zm K mg "lacks_guard" (top 51)):FN P w K mg base 1 "lacks_guard" ["row","guard"] z09:=by
 refine FN.o D sc51 fun f cdv A outer s H vs Q E hr h=>?_
 obtain ⟨a,r,gv,og,rfl,ha,hg,q⟩:=h
 refine ⟨_,zf (zk (qj (qi qC (zS qp (pv 0) zh (fun _ _=>rfl)) zo (zt _)) (qm (qi jX (pv 1) zF (zt _))))),?_⟩
 refine ⟨_,rfl,a,_,_,_,rfl,rfl,SqT.of ha,zr (j:=0) rfl,rfl,_,rfl,?_⟩
 unfold Jv at q
 rw [←z2O hg] at q
 refine ite2 (fun c=>?_) (fun c=>?_)
 ·have e:r.op="endtry":=by have:=kC c;injection this
  rw [ki e,Bool.true_and] at q
  exact ⟨_,rfl,rfl,q⟩
 ·have e:¬r.op="endtry":=fun z=>c (by rw [z];rfl)
  rw [kh e,Bool.false_and] at q
  exact q
def Je:Sp:=fun vs H Q _=>∃a r d gv og,vs=[.ref a,.int d,gv]∧H a=some (.tup (tupV r))∧ZE r∧jF H gv og∧∀H',Same H H'→Q (.bl (Qa r d og)) H'
theorem sc52:zj ["row","depth","guard","lowest"] ["row","depth","guard"] (zd (top 52)):=fsM
theorem z4F:bootBuiltins "max"=some (.builtin "max"):=by trivial
theorem z4E:bootBuiltins "min"=some (.builtin "min"):=by trivial
theorem z1z (D:zm K mg "takes_beneath" (top 52)) (G:Glo mg) (F1:FN P w K mg base 1 "depth_asked" ["row"] z0b):FN P w K mg base 2 "takes_beneath" ["row","depth","guard"] Je:=by
 refine FN.o D sc52 fun f cdv A outer s H vs Q E hr h=>?_
 obtain ⟨a,r,d,gv,og,rfl,ha,hok,hg,q⟩:=h
 refine ⟨_,zb (zJ (PW.pt (jx (zn jX (pv 2) zF (zt _)) (j9 (zn qC (zS qp (pv 0) zh (fun _ _=>rfl)) zo (zt _))))) (zf (zk qV)) zq)
  (zb (zx (i:=3) sc52.nd rfl (Or.inl rfl) (zl (z3p rfl) rfl G.max z4F (z6 zh (z6 (zY z2s (pv 1) (zu F1 hr rfl (z6 (pv 0) z8))) z8))))
  (zf (zk (qi z3W (pv 3) (zl (z3o rfl) rfl G.min z4E (z6 (pv 1) (z6 (zS qp (pv 2) zh (fun _ _=>rfl)) z8))) (zt _))))),?_⟩
 refine ⟨_,rfl,rfl,_,rfl,?_⟩
 cases og with
 | none=>
  have e:gv=.non:=hg
  subst e
  exact iteT (iteT (q H (Same.refl _)))
 | some g=>
  obtain ⟨ga,rfl,hga⟩:=hg
  refine iteF ⟨_,rfl,a,_,_,_,rfl,rfl,SqT.of ha,zr (j:=0) rfl,rfl,_,rfl,?_⟩
  unfold Qa at q
  refine ite2 (fun c=>?_) (fun c=>?_)
  ·have e:r.op="copy":=by have:=kC c;injection this
   simp only [kA e] at q
   exact q H (Same.refl _)
  ·have e:¬r.op="copy":=fun z=>c (by rw [z];rfl)
   simp only [kz e] at q
   refine ⟨_,rfl,_,rfl,a,r,rfl,ha,hok,fun H' s'=>⟨_,_,rfl,rfl,_,_,rfl,?_⟩⟩
   exact ⟨_,rfl,_,rfl,_,rfl,ga,_,_,_,rfl,rfl,SqT.of (s' _ _ hga),zr (j:=1) rfl,_,_,rfl,_,_,rfl,rfl,q H' s'⟩
end
theorem PS.imp {X:Cx} {st:Stmt} {t t':TS} (h:PS X st t) (hi:∀D σ H,t' D σ H→t D σ H):PS X st t':=fun pins s σ H D I q=>h pins s σ H D I (hi D σ H q)
theorem PE.imp {X:Cx} {e:Expr} {t t':TE} (h:PE X e t) (hi:∀σ H Q,t' σ H Q→t σ H Q):PE X e t':=fun pins s σ H Q I q=>h pins s σ H Q I (hi σ H Q q)
abbrev Mv:=V × Int × Int
abbrev jS (H:Hp):List Addr→List Mv→Prop:=Paired fun t m=>H t=some (.tup [m.1,.int m.2.1,.int m.2.2])
theorem jS.same {H H':Hp} {ts:List Addr} {ms:List Mv} (h:jS H ts ms) (k:∀a xs,H a=some (.tup xs)→H' a=some (.tup xs)):jS H' ts ms:=Paired.mapP h fun _ _ e=>k _ _ e
theorem jS.append {H:Hp} {as bs:List Addr} {rs ts:List Mv} (h:jS H as rs) (k:jS H bs ts):jS H (as++bs) (rs++ts):=z2h h k
theorem jS.get {H:Hp} {as:List Addr} {rs:List Mv} {i:Nat} {x:V} (h:jS H as rs) (e:(as.map V.ref)[i]?=some x):∃a r,x=.ref a∧rs[i]?=some r∧H a=some (.tup [r.1,.int r.2.1,.int r.2.2]):=z2g h e
noncomputable def Qb (r:Row) (d:Int):Int:=d - tabI ZG r.op+tabI ZW r.op
noncomputable def labV (rs:List Row) (m:Int):V:=match zM rs m with
 | some j=>.int (j:Nat)
 | none=>.non
noncomputable def argM (x:V):Int:=match x with
 | .int m=>m
 | _=>0
noncomputable def mv1 (r:Row) (place:Nat) (d:Int):List Mv:=if inT r.op jA=true then [] else [(.int ((place:Int)+1),Qb r d,tabI jc r.op)]
noncomputable def mv2 (rs:List Row) (r:Row) (d:Int):List Mv:=if inT r.op jumping=true then [(labV rs (argM r.arg),if inT r.op leaving=true then d else Qb r d,0)] else []
noncomputable def mv3 (rs:List Row) (r:Row) (og:Option Gd):List Mv:=if inT r.op faulting=true then (match og with | some g=>[(labV rs g.1,g.2+1,-1)] | none=>[]) else []
noncomputable def ja (rs:List Row) (place:Nat) (r:Row) (d:Int) (og:Option Gd):List Mv:=if decide (d < Qc r)=true then [] else if Jv r og=true then [] else mv1 r place d++mv2 rs r d++mv3 rs r og
theorem z44 {rs:List Row} {i:Nat} {r:Row} (hc:Code rs) (hr:rs[i]?=some r) (h:inT r.op jumping=true):∃(m:Int) (j:Nat),r.arg=.int m∧zM rs m=some j:=by
 have hok:=hc.ok r (kG hr)
 obtain ⟨s,hs,hfit,_⟩:=hok.parts
 have hm:qv r.op=some ("mark":Str)∧r.op≠"label":=by
  rw [Zk] at h
  have all:∀x∈jumping,qv x=some ("mark":Str)∧x≠"label":=by trivial
  exact all _ h
 rw [hm.1] at hs
 cases hs
 obtain ⟨m,em,_,_⟩:=jZ hfit
 have hf:=hc.fit i r hr
 unfold js at hf
 rw [kz hm.2,kA hm.1,em] at hf
 obtain ⟨j,hj⟩:=Option.isSome_iff_exists.mp hf
 exact ⟨m,j,em,hj⟩
def sMv (σ0:Addr→L2.St) (Hin:Hp) (new:List Mv):TS:=fun D σ H=>∃(fa:Addr) (ts:List Addr) (ms:List Mv),σ=σ0 fa∧Hin fa=none∧Same Hin H∧H fa=some (.lst (ts.map V.ref))∧jS H ts ms∧ts.length≤100∧
 ∀H' ts',Same Hin H'→H' fa=some (.lst (ts'.map V.ref))→jS H' ts' (ms++new)→ts'.length≤ts.length+1→D.nx (σ0 fa) H'
theorem z2x {Hin H:Hp} {fa p:Addr} {ts:List Addr} {ms:List Mv} {m:Mv} (hn:Hin fa=none) (sm:Same Hin H) (hf:H fa=some (.lst (ts.map V.ref))) (hM:jS H ts ms) (hp:H p=none):
  Same Hin (upd (upd H p (.tup [m.1,.int m.2.1,.int m.2.2])) fa (.lst (ts.map V.ref++[.ref p])))∧upd (upd H p (.tup [m.1,.int m.2.1,.int m.2.2])) fa (.lst (ts.map V.ref++[.ref p])) fa=some (.lst ((ts++[p]).map V.ref))∧
   jS (upd (upd H p (.tup [m.1,.int m.2.1,.int m.2.2])) fa (.lst (ts.map V.ref++[.ref p]))) (ts++[p]) (ms++[m]):=by
 have npf:p≠fa:=(zc hf hp).symm
 have kt:∀a xs,(upd H p (.tup [m.1,.int m.2.1,.int m.2.2])) a=some (.tup xs)→(upd (upd H p (.tup [m.1,.int m.2.1,.int m.2.2])) fa (.lst (ts.map V.ref++[.ref p]))) a=some (.tup xs):=fun a xs e=>by
  rw [ze (fun z=>by rw [z,ze npf.symm,hf] at e;cases e)];exact e
 refine ⟨fun b o e=>?_,?_,jS.append ((hM.same fun a xs e=>?_).same kt) (.cons ?_ .nil)⟩
 ·have e2:=sm b o e
  rw [ze (zc e hn),ze (zc e2 hp)]
  exact e2
 ·rw [z7,kJ]
  rfl
 ·rw [ze (zc e hp)];exact e
 ·exact kt _ _ z7
section
structure z03 (K:ky) (H:Hp) (l d:Addr) (rs:List Row):Prop where
 rows:∃as,SqL K H l (as.map V.ref)∧zL H as rs
 code:Code rs
 labs:∃kvs,H d=some (.dK kvs)∧Zr kvs rs
theorem zL.get' {H:Hp} {as:List Addr} {rs:List Row} {i:Nat} {r:Row} (h:zL H as rs) (e:rs[i]?=some r):∃a,(as.map V.ref)[i]?=some (.ref a)∧H a=some (.tup (tupV r)):=by
 have hi:i < rs.length:=(kf.mp e).1
 obtain ⟨a,r',h1,h2,h3⟩:=zL.get (i:=i) (x:=(as.map V.ref)[i]'(by rw [kj,h.len];exact hi)) h (kK _)
 rw [e] at h2
 cases h2
 exact ⟨a,by rw [←h1];exact kK _,h3⟩
def z07 (K:ky):Sp:=fun vs H Q _=>∃l d place dep gv og rs r,vs=[.ref l,.ref d,.int (place:Nat),.int dep,gv]∧z03 K H l d rs∧rs[place]?=some r∧jF H gv og∧
 ∀f ts H',Same H H'→H f=none→H' f=some (.lst (ts.map V.ref))→jS H' ts (ja rs place r dep og)→Q (.ref f) H'
theorem sc53:zj ["code","labels","place","depth","guard","row","op","arg","behind","found"] ["code","labels","place","depth","guard"] (zd (top 53)):=fsM
theorem z4o (D:zm K mg "moves" (top 53)) (T:z3r w K mg) (FV:FN P w K mg base 2 "lacks_values" ["row","depth"] z08) (FG:FN P w K mg base 1 "lacks_guard" ["row","guard"] z09):
  FN P w K mg base 3 "moves" ["code","labels","place","depth","guard"] (z07 K):=by
 refine FN.o D sc53 fun f cdv A outer s H vs Q E hr h=>?_
 obtain ⟨l,d,place,dep,gv,og,rs,r,rfl,hC,hrp,hg,q⟩:=h
 have hu:=Zl hr
 obtain ⟨⟨as,hS,hR⟩,hc,kvs,hd,hL⟩:=id hC
 obtain ⟨ra,hra,har⟩:=hR.get' hrp
 have hro:=hc.ok r (kG hrp)
 obtain ⟨d1,md1,td1⟩:=T.takes
 obtain ⟨d2,md2,td2⟩:=T.pushes
 obtain ⟨d3,md3,td3⟩:=T.gput
 obtain ⟨a1,ma1,ta1⟩:=T.never
 obtain ⟨a2,ma2,ta2⟩:=T.jumping
 obtain ⟨a3,ma3,ta3⟩:=T.leaving
 obtain ⟨a4,ma4,ta4⟩:=T.faulting
 let σ0:Addr→L2.St:=fun fa=>[some (.ref l),some (.ref d),some (.int (place:Nat)),some (.int dep),some gv,some (.ref ra),some (.str r.op),some r.arg,some (.int (Qb r dep)),some (.ref fa)]
 refine ⟨_,zb (zx (i:=5) sc53.nd rfl (Or.inl rfl) (zS zN (pv 0) (pv 2) (fun _ _=>rfl)))
  (zb (Ji (i:=6) (j:=7) rfl sc53.nd rfl rfl (by decide) rfl rfl (z6 (zS qp (pv 5) zh (fun _ _=>rfl)) (z6 (zS qp (pv 5) zh (fun _ _=>rfl)) z8)) rfl)
  (zb (zJ (PW.pt (jx (zX (zu FV hr rfl (z6 (pv 5) (z6 (pv 3) z8)))) (j9 (zX (zu FG (hr.mono (by decide)) rfl (z6 (pv 5) (z6 (pv 4) z8))))))) (zf (zk (qe z8))) zq)
  (zb (zx (i:=8) sc53.nd rfl (Or.inl rfl) (zY jz (zY z2s (pv 3) (ZK td1 rfl md1 (pv 6) zh ⟨rfl,rfl,rfl,rfl⟩)) (ZK td2 rfl md2 (pv 6) zh ⟨rfl,rfl,rfl,rfl⟩)))
  (zb (zx (i:=9) sc53.nd rfl (Or.inl rfl) (qe z8))
  (zb (PS.imp (t':=sMv σ0 H (mv1 r place dep)) (zJ (zn Zv (pv 6) (zA rfl ma1 (v:=.ref a1) rfl) rfl) (zf (zH (jr (pv 9)
    (z6 (zB (z6 (zY jz (pv 2) zh) (z6 (pv 8) (z6 (ZK td3 rfl md3 (pv 6) zh ⟨rfl,rfl,rfl,rfl⟩) z8)))) z8)))) zq) ?m1)
  (zb (PS.imp (t':=sMv σ0 H (mv2 rs r dep)) (zJ (zn qW (pv 6) (zA rfl ma2 (v:=.ref a2) rfl) rfl) (zf (zH (jr (pv 9)
    (z6 (zB (z6 (jy hu (pv 1) (pv 7) (fun _ _=>rfl)) (z6 (qG (zn qW (pv 6) (zA rfl ma3 (v:=.ref a3) rfl) rfl) (pv 3) (pv 8)) (z6 zh z8)))) z8)))) zq) ?m2)
  (zb (PS.imp (t':=sMv σ0 H (mv3 rs r og)) (zJ (PW.pt (ZV (zn qW (pv 6) (zA rfl ma4 (v:=.ref a4) rfl) rfl) (jO (zn Zg (pv 4) zF (zt _))))) (zf (zH (jr (pv 9)
    (z6 (zB (z6 (z0Q hu (pv 1) (zS qp (pv 4) zh (fun _ _=>rfl)) ⟨rfl,rfl,rfl,rfl⟩) (z6 (zY jz (zS qp (pv 4) zh (fun _ _=>rfl)) zh) (z6 (jP qS zh) z8)))) z8)))) zq) ?m3)
  (zf (zk (pv 9)))))))))),?_⟩
 case m1=>
  rintro D σ H1 ⟨fa,ts,ms,rfl,hn,sm,hf,hM,hl,k⟩
  refine ⟨_,rfl,a1,_,rfl,.inr (ta1.sq _),rfl,jD _,_,rfl,?_⟩
  unfold mv1 at k
  refine ite2 (fun c=>?_) (fun c=>?_)
  ·have c':¬inT r.op jA=true:=by
    intro z
    have c:(!inT r.op jA)=true:=c
    rw [z] at c;cases c
   rw [kz c'] at k
   refine ⟨_,rfl,.inl ⟨rfl,_,SqL.of hf⟩,_,rfl,_,_,rfl,rfl,_,rfl,_,rfl,r.op,rfl,by show 3≤sizeLine;decide,fun p hp=>?_⟩
   rw [Z1]
   obtain ⟨k1,k2,k3⟩:=z2x (m:=(.int ((place:Int)+1),Qb r dep,tabI jc r.op)) hn sm hf hM hp
   exact ⟨fa,_,.ref p,rfl,rfl,by rw [ze (zc hf hp)];exact hf,zV (by rw [kj];lia),k _ _ k1 k2 k3 (by simp)⟩
  ·have c':inT r.op jA=true:=by
    cases z:inT r.op jA with
    | true=>rfl
    | false=>exact absurd (show (!inT r.op jA)=true by rw [z];rfl) c
   rw [kA c'] at k
   exact k H1 ts sm hf (by rw [kU];exact hM) (by lia)
 case m2=>
  rintro D σ H1 ⟨fa,ts,ms,rfl,hn,sm,hf,hM,hl,k⟩
  refine ⟨_,rfl,a2,_,rfl,.inr (ta2.sq _),rfl,jD _,_,rfl,?_⟩
  unfold mv2 at k
  refine ite2 (fun c=>?_) (fun c=>?_)
  ·have c':inT r.op jumping=true:=c
   rw [kA c'] at k
   obtain ⟨m,j,em,hj⟩:=z44 hc hrp c'
   have hv:valV kvs (Sum.inl m:Key)=some (.int (j:Int)):=by rw [hL m,hj];rfl
   have hgt:DGet H1 d r.arg (some (.int (j:Int))):=by rw [em,←hv];exact DGet.k (k:=Sum.inl m) (sm _ _ hd)
   refine ⟨_,rfl,.inl ⟨rfl,_,SqL.of hf⟩,_,rfl,_,rfl,d,_,rfl,hgt,_,rfl,a3,_,rfl,.inr (ta3.sq _),rfl,jD _,_,rfl,?_⟩
   have el:labV rs (argM r.arg)=.int (j:Nat):=by
    rw [em]
    show labV rs m=_
    unfold labV
    rw [hj]
   rw [el] at k
   have fin:∀x:Int,(if inT r.op leaving=true then dep else Qb r dep)=x→∀p,H1 p=none→z0c (.ref fa) [.ref p] (upd H1 p (.tup [.int (j:Nat),.int x,.int 0])) (fun _ H2=>D.nx (σ0 fa) H2):=fun x ex p hp=>by
    rw [ex] at k
    obtain ⟨k1,k2,k3⟩:=z2x (m:=(.int (j:Nat),x,0)) hn sm hf hM hp
    exact ⟨fa,_,.ref p,rfl,rfl,by rw [ze (zc hf hp)];exact hf,zV (by rw [kj];lia),k _ _ k1 k2 k3 (by simp)⟩
   refine ite2 (fun c2=>?_) (fun c2=>?_)
   ·have c2':inT r.op leaving=true:=c2
    exact ⟨_,rfl,by show 3≤sizeLine;decide,fin dep (kA c2')⟩
   ·have c2':¬inT r.op leaving=true:=c2
    exact ⟨_,rfl,by show 3≤sizeLine;decide,fin _ (kz c2')⟩
  ·have c':¬inT r.op jumping=true:=c
   rw [kz c'] at k
   exact k H1 ts sm hf (by rw [kU];exact hM) (by lia)
 case m3=>
  rintro D σ H1 ⟨fa,ts,ms,rfl,hn,sm,hf,hM,hl,k⟩
  refine ⟨_,rfl,a4,_,rfl,.inr (ta4.sq _),rfl,jD _,_,rfl,?_⟩
  unfold mv3 at k
  refine ite2 (fun c=>?_) (fun c=>?_)
  ·have c':inT r.op faulting=true:=c
   rw [kA c'] at k
   have hg1:=hg.same sm
   refine ⟨_,rfl,rfl,_,rfl,?_⟩
   cases og with
   | none=>
    have e:gv=.non:=hg
    rw [e]
    exact iteF (k H1 ts sm hf (by rw [kU];exact hM) (by lia))
   | some g=>
    obtain ⟨ga,eg,hga⟩:=hg1
    rw [kh (show ¬gv=.non by rw [eg];exact nofun)]
    have hgt:DGet H1 d (.int g.1) (valV kvs (Sum.inl g.1:Key)):=DGet.k (k:=Sum.inl g.1) (sm _ _ hd)
    have ev:(valV kvs (Sum.inl g.1:Key)).getD .non=labV rs g.1:=by
     rw [hL]
     unfold labV
     cases zM rs g.1 <;> rfl
    have eσ:(σ0 fa)[4]?=some (some (.ref ga)):=by rw [←eg];rfl
    refine iteT ⟨_,rfl,.inl ⟨rfl,_,SqL.of hf⟩,_,rfl,d,rfl,.inl ⟨kvs,.inl (sm _ _ hd)⟩,_,eσ,ga,_,_,_,rfl,rfl,SqT.of hga,zr (j:=0) rfl,_,hgt,_,eσ,ga,_,_,_,rfl,rfl,SqT.of hga,zr (j:=1) rfl,_,_,rfl,rfl,1,rfl,by show 3≤sizeLine;decide,fun p hp=>?_⟩
    rw [ev]
    obtain ⟨k1,k2,k3⟩:=z2x (m:=(labV rs g.1,g.2+1,-1)) hn sm hf hM hp
    exact ⟨fa,_,.ref p,rfl,rfl,by rw [ze (zc hf hp)];exact hf,zV (by rw [kj];lia),k _ _ k1 k2 k3 (by simp)⟩
  ·have c':¬inT r.op faulting=true:=c
   rw [kz c'] at k
   exact iteF (k H1 ts sm hf (by rw [kU];exact hM) (by lia))
 refine ⟨_,rfl,_,rfl,l,_,_,_,rfl,rfl,hS,zr hra,?_⟩
 refine ⟨_,rfl,ra,_,_,_,rfl,rfl,SqT.of har,zr (j:=0) rfl,_,rfl,ra,_,_,_,rfl,rfl,SqT.of har,zr (j:=1) rfl,_,_,rfl,?_⟩
 refine ⟨_,rfl,_,rfl,ra,r,dep,rfl,har,hro,fun H1 s1=>⟨_,rfl,?_⟩⟩
 have empty:∀H2,Same H H2→ja rs place r dep og=[]→∀p,H2 p=none→Q (.ref p) (upd H2 p (.lst [])):=fun H2 s2 e p hp=>by
  refine q p [] _ (My.Same.upd s2 (s2.free hp) _) (s2.free hp) z7 ?_
  rw [e]
  exact .nil
 unfold ja at q empty
 refine ite2 (fun c=>?_) (fun c=>?_)
 ·rw [kA c] at empty
  exact iteT ⟨by show 0≤sizeLine;decide,empty H1 s1 rfl⟩
 ·rw [kz c] at q empty
  refine ⟨_,rfl,_,rfl,ra,r,gv,og,rfl,s1 _ _ har,hg.same s1,_,rfl,?_⟩
  refine ite2 (fun c2=>?_) (fun c2=>?_)
  ·rw [kA c2] at empty
   exact ⟨by show 0≤sizeLine;decide,empty H1 s1 rfl⟩
  ·rw [kz c2] at q
   refine ⟨_,rfl,_,rfl,r.op,rfl,?_⟩
   rw [Z1]
   refine ⟨_,_,rfl,rfl,_,rfl,r.op,rfl,?_⟩
   rw [Z1]
   refine ⟨_,_,rfl,rfl,by show 0≤sizeLine;decide,fun fa hfa=>?_⟩
   have hn:=s1.free hfa
   refine ⟨fa,[],[],rfl,hn,My.Same.upd s1 hn _,z7,.nil,by simp,fun H3 t3 s3 f3 M3 z3=>?_⟩
   refine ⟨fa,t3,_,rfl,hn,s3,f3,M3,by simp at z3;lia,fun H4 t4 s4 f4 M4 z4=>?_⟩
   refine ⟨fa,t4,_,rfl,hn,s4,f4,M4,by simp at z3;lia,fun H5 t5 s5 f5 M5 z5=>?_⟩
   exact ⟨_,rfl,q fa t5 H5 s5 hn f5 (by simpa using M5)⟩
end
theorem Zf {X:Cx} {pos:Pos} {K:ky} {es:List Expr} {k:Nat} {t:TGs} {n:Nat} (hK:X.K=K) (hc:X.calm=true) (h:PGs X es t)
  (hn:autoParam ((assignEach es X.env).length=n) aR._auto_1) (hst:autoParam ((assignEach es X.env).findIdx? (·.1)=none) aR._auto_1):PG X (.Tuple es k pos) (gTup K n t):=by
 subst hK
 exact qU hc h hn hst
theorem Z8 {σ:L2.St} {H:Hp} {F G:Hp→Prop} (h:F H):tAll σ H (fun b H5=>if b=true then F H5 else G H5):=by
 show (if true=true then F H else G H)
 rw [kA rfl]
 exact h
theorem nd3:(["goal","deeper","more"]:List Str).Nodup:=by trivial
theorem nd2:(["word","is_lacking"]:List Str).Nodup:=by trivial
theorem qA.plain {X:Cx} {N:List Str} {nt:Nat} {scope:Scope} (nofree:∀y∈scope.names,y.2≠.free) (nocell:∀y∈scope.names,y.2≠.cell) (kind:scope.kind=.function) (names:∀y∈scope.names,y.2=.local→scope.names.lookup y.1=some .local) (hl:N.length=nt):qA X N nt [] scope [] where
 clos:=closureFor_none nofree
 nocell:=nocell
 kind:=kind
 names:=names
 sub:=fun _ _ e=>nomatch e
 has:=fun x h=>by
  rw [z1f nofree] at h
  rcases h with h | h
  ·exact absurd h (Jt nocell x)
  ·exact absurd h (Jt nofree x)
 len:=by rw [hl];rfl
 free:=fun j x e=>by
  rw [List.getElem?_eq_none (by lia)] at e
  cases e
theorem Qz {K:ky} {a:Addr} {xs:List V} {g:TG} {tc:TT} {te:TE} {R:Hp→Prop} {H:Hp} {l:Addr} {σ0:L2.St} (Pv:Nat→List V→L2.St→Hp→Prop) (h0:Pv 0 [] σ0 (upd H l (.lst []))) (hl:∀i ys σ H,i≤xs.length→Pv i ys σ H→SqL K H a xs)
  (hs:∀i x ys σ H,xs[i]?=some x→Pv i ys σ H→g x σ H fun σ2 H4=>tc σ2 H4 fun b H5=>if b=true then te σ2 H5 fun v H6=>H6 l=some (.lst ys)∧ys.length < sizeLine∧∃m',m' < xs.length - i∧m'=xs.length - (i+1)∧i+1≤xs.length∧Pv (i+1) (ys++[v]) σ2 (upd H6 l (.lst (ys++[v])))
   else ∃m',m' < xs.length - i∧m'=xs.length - (i+1)∧i+1≤xs.length∧Pv (i+1) ys σ2 H5) (hd:∀ys σ H,Pv xs.length ys σ H→R H):
  ∃W:Nat→Nat→List V→L2.St→Hp→Prop,(∃m,W 0 m [] σ0 (upd H l (.lst [])))∧∀i m ys σ' H2,W i m ys σ' H2→
   ((Itl K a).stop i H2∧R H2)∨((Itl K a).go i H2∧∀x H3,(Itl K a).yld i H2 x H3→g x σ' H3 fun σ2 H4=>tc σ2 H4 fun b H5=>if b=true then te σ2 H5 fun v H6=>H6 l=some (.lst ys)∧ys.length < sizeLine∧∃m',m' < m∧W (i+1) m' (ys++[v]) σ2 (upd H6 l (.lst (ys++[v])))
    else ∃m',m' < m∧W (i+1) m' ys σ2 H5):=by
 refine ⟨fun i m ys σ H=>m=xs.length - i∧i≤xs.length∧Pv i ys σ H,⟨xs.length,by simp,Nat.zero_le _,h0⟩,?_⟩
 rintro i m ys σ H ⟨rfl,hi,p⟩
 have q:=hl i ys σ H hi p
 by_cases hlt:i < xs.length
 ·refine .inr ⟨⟨xs,xs[i],q,by simp [hlt]⟩,fun x H' y=>?_⟩
  obtain ⟨e,y⟩:=y
  subst e
  exact hs i x ys σ _ (y xs q) p
 ·have e:i=xs.length:=by lia
  subst e
  exact .inl ⟨⟨xs,q,ke _⟩,hd ys σ H p⟩
theorem Zp {a l:Addr} {kvs:List (Key × V)} {o:Obj} {g:TG} {tc:TT} {te:TE} {Q:VK} {H:Hp} {σ0:L2.St} (Pv:Nat→List V→L2.St→Hp→Prop) (h0:Pv 0 [] σ0 (upd H l (.lst []))) (hf:∀i ys σ H,Pv i ys σ H→H a=some (.frz o (.dK kvs)))
  (hs:∀i p k v ys σ H,kvs[i]?=some (k,v)→Pv i ys σ H→H p=none→g (.ref p) σ (upd H p (.tup [kV k,v])) fun σ2 H4=>tc σ2 H4 fun b H5=>if b=true then te σ2 H5 fun v H6=>H6 l=some (.lst ys)∧ys.length < sizeLine∧∃m',m' < kvs.length - i∧m'=kvs.length - (i+1)∧i+1≤kvs.length∧Pv (i+1) (ys++[v]) σ2 (upd H6 l (.lst (ys++[v])))
   else ∃m',m' < kvs.length - i∧m'=kvs.length - (i+1)∧i+1≤kvs.length∧Pv (i+1) ys σ2 H5) (hd:∀ys σ H,Pv kvs.length ys σ H→Q (.ref l) (upd H a (.dK kvs))):
  ∃W:Nat→Nat→List V→L2.St→Hp→Prop,(∃m,W 0 m [] σ0 (upd H l (.lst [])))∧∀i m ys σ' H2,W i m ys σ' H2→
   H2 a=some (.frz o (.dK kvs))∧(kvs.length≤i→Q (.ref l) (upd H2 a (.dK kvs)))∧(∀p k v,kvs[i]?=some (k,v)→H2 p=none→g (.ref p) σ' (upd H2 p (.tup [kV k,v])) fun σ2 H4=>tc σ2 H4 fun b H5=>if b=true then te σ2 H5 fun v H6=>H6 l=some (.lst ys)∧ys.length < sizeLine∧∃m',m' < m∧W (i+1) m' (ys++[v]) σ2 (upd H6 l (.lst (ys++[v])))
    else ∃m',m' < m∧W (i+1) m' ys σ2 H5):=by
 refine ⟨fun i m ys σ H=>m=kvs.length - i∧i≤kvs.length∧Pv i ys σ H,⟨kvs.length,by simp,Nat.zero_le _,h0⟩,?_⟩
 rintro i m ys σ H ⟨rfl,hi,p⟩
 refine ⟨hf i ys σ H p,fun hle=>?_,fun p' k v hkv hp=>hs i p' k v ys σ H hkv p hp⟩
 have e:i=kvs.length:=by lia
 subst e
 exact hd ys σ H p
noncomputable def Qi (rs:List Row) (place:Nat) (r:Row) (d:Int) (og:Option Gd):List (Str × Bool):=
 [("takes",decide (d < Qc r)),("guard",Jv r og),("beneath",Qa r d og),("end",inV (.int (rs.length:Nat)) ((ja rs place r d og).map (·.1)))]
noncomputable def Zt (rs:List Row) (place:Nat) (r:Row) (d:Int) (og:Option Gd):List Str:=((Qi rs place r d og).filter (·.2)).map (·.1)
theorem Jw (rs:List Row) (m:Int):ZB (labV rs m)=true:=by
 unfold labV
 cases zM rs m <;> rfl
theorem z1k (rs:List Row) (place:Nat) (r:Row) (d:Int) (og:Option Gd):((ja rs place r d og).map (·.1)).all ZB=true:=by
 rw [List.all_map,List.all_eq_true]
 intro m hm
 unfold ja at hm
 split at hm
 ·cases hm
 ·split at hm
  ·cases hm
  ·rcases kR.mp hm with hm | hm
   ·rcases kR.mp hm with hm | hm
    ·unfold mv1 at hm
     split at hm
     ·cases hm
     ·rw [ko.mp hm];rfl
    ·unfold mv2 at hm
     split at hm
     ·rw [ko.mp hm];exact Jw _ _
     ·cases hm
   ·unfold mv3 at hm
    split at hm
    ·cases og with
     | none=>cases hm
     | some g=>rw [ko.mp hm];exact Jw _ _
    ·cases hm
noncomputable def kvs4 (wb:List (Str × Bool)):List (Key × V):=wb.map fun p=>(Sum.inr p.1,V.bl p.2)
theorem z7b (a b c d:Bool):qz [] (kvs4 [("takes",a),("guard",b),("beneath",c),("end",d)])=kvs4 [("takes",a),("guard",b),("beneath",c),("end",d)]:=by rfl
section
def z1T (K:ky):Sp:=fun vs H Q _=>∃l d place dep gv og rs r,vs=[.ref l,.ref d,.int (place:Nat),.int dep,gv]∧z03 K H l d rs∧rs[place]?=some r∧jF H gv og∧
 ∀f H',Same H H'→H f=none→H' f=some (.lst ((Zt rs place r dep og).map V.str))→Q (.ref f) H'
theorem sc54:zj ["code","labels","place","depth","guard","row","goals","found"] ["code","labels","place","depth","guard"] (zd (top 54)):=fsM
theorem z4i (D:zm K mg "words_lacking" (top 54)) (G:Glo mg) (FV:FN P w K mg base 2 "lacks_values" ["row","depth"] z08) (FG:FN P w K mg base 1 "lacks_guard" ["row","guard"] z09) (FB:FN P w K mg base 2 "takes_beneath" ["row","depth","guard"] Je)
  (FM:FN P w K mg base 3 "moves" ["code","labels","place","depth","guard"] (z07 K)):FN P w K mg base 4 "words_lacking" ["code","labels","place","depth","guard"] (z1T K):=by
 refine FN.o D sc54 fun f cdv A outer s H vs Q E hr h=>?_
 obtain ⟨l,d,place,dep,gv,og,rs,r,rfl,hC,hrp,hg,q⟩:=h
 obtain ⟨⟨as,hS,hR⟩,hc,kvs,hd,hL⟩:=id hC
 obtain ⟨ra,hra,har⟩:=hR.get' hrp
 have hro:=hc.ok r (kG hrp)
 have hr2:=hr.mono (show 2≤3 by decide)
 have hr1:=hr.mono (show 1≤3 by decide)
 refine ⟨_,zb (zx (i:=5) sc54.nd rfl (Or.inl rfl) (zS zN (pv 0) (pv 2) (fun _ _=>rfl)))
  (zb (z0e (N:=["goal","deeper","more"]) (nt:=3) (ix:=[]) (cl:=[]) (i:=6) rfl sc54.nd rfl (Or.inl rfl) (qA.plain (by trivial) (by trivial) rfl (by trivial) rfl)
   (z0f (zu FM hr rfl (z6 (pv 0) (z6 (pv 1) (z6 (pv 2) (z6 (pv 3) (z6 (pv 4) z8)))))))
   (fun _ _ _ _=>Zf (K:=K) (n:=3) rfl rfl (zp (zw (i:=0) nd3 rfl (Or.inl rfl)) (zp (zw (i:=1) nd3 rfl (Or.inl rfl)) (zp (zw (i:=2) nd3 rfl (Or.inl rfl)) qh))))
   (fun _ _ _ _=>Zc) (fun _ _ _ _=>pv 0))
  (zb (zx (i:=7) sc54.nd rfl (Or.inl rfl) (ZY (qB zo (zu FV hr2 rfl (z6 (pv 5) (z6 (pv 3) z8))) (qB zo (zu FG hr1 rfl (z6 (pv 5) (z6 (pv 4) z8)))
    (qB zo (zu FB hr2 rfl (z6 (pv 5) (z6 (pv 3) (z6 (pv 4) z8)))) (qB zo (qi qW (zl qb rfl G.len zR (z6 (pv 0) z8)) (pv 6) rfl) Zd)))) rfl rfl nofun (by decide)))
  (zf (zk (QL (N:=["word","is_lacking"]) (nt:=2) (ix:=[]) (cl:=[]) rfl (qA.plain (by trivial) (by trivial) rfl (by trivial) rfl) (pv 7)
   (fun _ _ _ _=>Zf (K:=K) (n:=2) rfl rfl (zp (zw (i:=0) nd2 rfl (Or.inl rfl)) (zp (zw (i:=1) nd2 rfl (Or.inl rfl)) qh)))
   (fun _ _ _ _=>z0d (zX (pv 1))) (fun _ _ _ _=>pv 0)))))),?_⟩
 refine ⟨_,rfl,_,rfl,l,_,_,_,rfl,rfl,hS,zr hra,?_⟩
 refine ⟨_,rfl,_,rfl,_,rfl,_,rfl,_,rfl,l,d,place,dep,gv,og,rs,r,rfl,hC,hrp,hg,fun ml ts H1 s1 hn1 hm1 hM1=>?_⟩
 generalize hms:ja rs place r dep og=ms at hM1
 refine ⟨ml,rfl,⟨_,SqL.of hm1⟩,fun gl hgl=>Qz (K:=K) (a:=ml) (xs:=ts.map V.ref) (fun i ys σ H2=>(∃a b c,σ=[a,b,c])∧ys=(ms.take i).map (·.1)∧Same H1 H2∧H2 gl=some (.lst ys))
  ⟨⟨none,none,none,rfl⟩,rfl,zg hgl _,z7⟩ (fun i ys σ H2 _ ⟨_,_,s2,_⟩=>s2.seq (SqL.of hm1)) ?_ ?_⟩
 ·rintro i x ys σ H2 hi ⟨⟨a,b,c,rfl⟩,rfl,s2,hp2⟩
  obtain ⟨t,m,rfl,hm,ht⟩:=(hM1.same fun a xs e=>s2 _ _ e).get hi
  have hil:i < ts.length:=by have:=(kf.mp hi).1;simpa using this
  have hml:ts.length=ms.length:=Paired.length hM1
  refine ⟨t,_,rfl,SqT.of ht,rfl,_,_,rfl,_,_,rfl,_,_,rfl,rfl,?_⟩
  refine Z8 ⟨_,rfl,hp2,?_,_,?_,rfl,?_,⟨_,_,_,rfl⟩,?_,?_,z7⟩
  ·rw [kj,List.length_take]
   have h1:ms.length≤3:=by
    rw [←hms]
    unfold ja mv1 mv2 mv3
    repeat' split
    all_goals simp
   exact zV (by lia)
  ·rw [kj];lia
  ·rw [kj];lia
  ·rw [qI hm,kJ];rfl
  ·exact My.Same.upd s2 hgl _
 ·rintro ys σ H2 ⟨_,rfl,s2,hp2⟩
  have hml:ts.length=ms.length:=Paired.length hM1
  rw [kj,hml,List.take_length] at hp2
  have s02:=s1.trans s2
  intro fd hfd
  have hgl0:H gl=none:=s1.free hgl
  have hfd0:H fd=none:=s02.free hfd
  have s3:=zg hfd (.dK [])
  refine ⟨_,rfl,_,rfl,ra,r,dep,rfl,s3 _ _ (s02 _ _ har),hro,fun H4 s4=>?_⟩
  have s24:=s3.trans s4
  refine ⟨_,rfl,_,rfl,ra,r,gv,og,rfl,s24 _ _ (s02 _ _ har),(hg.same s02).same s24,?_⟩
  refine ⟨_,rfl,_,rfl,_,rfl,ra,r,dep,gv,og,rfl,s24 _ _ (s02 _ _ har),hro,(hg.same s02).same s24,fun H5 s5=>?_⟩
  have s25:=s24.trans s5
  refine ⟨_,rfl,l,_,rfl,.inl (s25.seq (s02.seq hS)),_,rfl,gl,_,rfl,.inl (SqL.of (s25 _ _ hp2)),rfl,by rw [←hms];exact z1k _ _ _ _ _,?_⟩
  refine ⟨s5 _ _ (s4 _ _ z7),kvs4 (Qi rs place r dep og),?_,(by show 4≤15;decide),?_⟩
  ·unfold Qi kvs4
   rw [hms,kj,hR.len]
   rfl
  ·rw [show qz [] (kvs4 (Qi rs place r dep og))=kvs4 (Qi rs place r dep og) from z7b _ _ _ _]
   generalize hwb:Qi rs place r dep og=wb
   have hwl:wb.length=4:=by rw [←hwb];rfl
   have sH5:Same H H5:=s02.trans s25
   refine ⟨_,rfl,fd,kvs4 wb,rfl,z7,fun o l2 hl2=>?_⟩
   have nlf:l2≠fd:=fun z=>by rw [z,z7] at hl2;cases hl2
   have hl20:H l2=none:=sH5.free (by rw [ze nlf] at hl2;exact hl2)
   refine Zp (fun i ys σ H2=>(∃a b,σ=[a,b])∧ys=((wb.take i).filter (·.2)).map (fun p=>V.str p.1)∧Same H H2∧H2 l2=some (.lst ys)∧H2 fd=some (.frz o (.dK (kvs4 wb)))) ⟨⟨none,none,rfl⟩,rfl,?_,z7,?_⟩ (fun i ys σ H2 h=>h.2.2.2.2) ?_ ?_
   ·intro b o e
    rw [ze (zc e hl20),ze (zc e hfd0),ze (zc e hfd0)]
    exact sH5 _ _ e
   ·rw [ze nlf.symm];exact z7
   ·rintro i p k v ys σ H2 hi ⟨⟨a,b,rfl⟩,rfl,s2',hp2',hf2⟩ hp
    have hil:i < 4:=by have:=(kf.mp hi).1;unfold kvs4 at this;rw [kj,hwl] at this;exact this
    have hkl:(kvs4 wb).length=4:=by unfold kvs4;rw [kj,hwl]
    obtain ⟨pw,hpw,ek⟩:∃pw:Str × Bool,wb[i]?=some pw∧(k,v)=(Sum.inr pw.1,V.bl pw.2):=by
     unfold kvs4 at hi
     rw [List.getElem?_map] at hi
     cases e:wb[i]? with
     | none=>rw [e] at hi;cases hi
     | some pw=>rw [e] at hi;exact ⟨pw,rfl,(kB hi).symm⟩
    cases ek
    have npl:l2≠p:=zc hp2' hp
    have npf:fd≠p:=zc hf2 hp
    have sp:Same H (upd H2 p (.tup [kV (Sum.inr pw.1),V.bl pw.2])):=fun b o e=>by rw [ze (zc (s2' _ _ e) hp)];exact s2' _ _ e
    refine ⟨p,_,rfl,SqT.of z7,rfl,_,_,rfl,_,_,rfl,rfl,_,rfl,pw.2,rfl,?_⟩
    have efil:(wb.take (i+1)).filter (·.2)=(wb.take i).filter (·.2)++(if pw.2=true then [pw] else []):=by
     rw [qI hpw,List.filter_append]
     congr 1
     cases hh:pw.2 <;> simp [hh]
    refine ite2 (fun c=>?_) (fun c=>?_)
    ·rw [kA c] at efil
     refine ⟨_,rfl,by rw [ze npl];exact hp2',?_,_,by lia,rfl,by lia,⟨_,_,rfl⟩,?_,?_,z7,?_⟩
     ·rw [kj]
      have h1:=List.length_filter_le (fun p:Str × Bool=>p.2) (wb.take i)
      rw [List.length_take] at h1
      exact zV (by lia)
     ·rw [efil,kJ];rfl
     ·exact fun b o e=>by rw [ze (zc e hl20)];exact sp _ _ e
     ·rw [ze nlf.symm,ze npf];exact hf2
    ·rw [kz c,kU] at efil
     exact ⟨_,by lia,rfl,by lia,⟨_,_,rfl⟩,by rw [efil],sp,by rw [ze npl];exact hp2',by rw [ze npf];exact hf2⟩
   ·rintro ys σ H2 ⟨_,rfl,s2',hp2',hf2⟩
    refine q l2 _ (fun b o e=>?_) hl20 ?_
    ·rw [ze (zc e hfd0)];exact s2' _ _ e
    ·rw [ze nlf,hp2']
     unfold Zt
     rw [hwb,show (kvs4 wb).length=wb.length by unfold kvs4;rw [kj],List.take_length,List.map_map]
     rfl
end
theorem sc56:zj ["code","labels","place","state","depth","guards"] ["code","labels","place","state"] (zd (top 56)):=fsM
noncomputable def z3k:Scope:=match (zE (top 56)).getD 1 (.Pass ⟨0,0,0,0⟩) with
 | .Return (some (.ListComp _ _ s _)) _=>s
 | _=>zd (top 56)
noncomputable def cl52 (L:Addr):List (Str × Addr):=[("state",L+1+1+1),("place",L+1+1),("code",L+1)]
noncomputable def nm52:List (Str × NameKind):=[(".0",.local),("goal",.local),("deeper",.local),("more",.local),("guards_behind",.globalImplicit),("code",.cell),("place",.cell),("state",.cell)]
noncomputable def N52:List Str:=["goal","deeper","more","code","place","state"]
theorem z7H (f:Addr) (cdv:Value) (L:Addr):closureFor z3k (envOfC "next_states" (zd (top 56)) L f cdv)=pure (cl52 L):=by rfl
theorem z89 (f:Addr) (cdv:Value) (L:Addr):(relabel z3k (envOfC "next_states" (zd (top 56)) L f cdv)).names=nm52:=by rfl
theorem cs52 {P:Program} {w:World} {K:ky} {mg:Str→Option Value} {base:Heap} {f:Addr} {cdv:Value} {A:Around} {outer:List Env} {s:Shared} {H:Hp} {E:XK}:
  qA (cxOf CX0 P w K mg base ["code","labels","place","state","depth","guards"] "next_states" (zd (top 56)) f cdv A outer s H E).nox N52 3 [0,2,3] z3k (cl52 s.heap.objs.size) where
 clos:=z7H f cdv s.heap.objs.size
 nocell:=by trivial
 kind:=rfl
 names:=by trivial
 sub:=fun x c e=>e
 has:=fun x h=>by
  have e:=z89 f cdv s.heap.objs.size
  have h:nm52.lookup x=some .cell∨nm52.lookup x=some .free:=by rw [←e];exact h
  have:x="code"∨x="place"∨x="state":=by
   rcases h with h | h
   ·have hm:=PySem.mem_of_lookup h
    simp only [nm52,kD,Prod.mk.injEq,kq,or_false] at hm
    rcases hm with z | z | z | z | z | z | z | z
    all_goals first | exact .inl z.1 | exact .inr (.inl z.1) | exact .inr (.inr z.1) | exact z.2.elim | cases z.2
   ·have hm:=PySem.mem_of_lookup h
    simp only [nm52,kD,Prod.mk.injEq,kq,or_false] at hm
    rcases hm with z | z | z | z | z | z | z | z
    all_goals first | exact z.2.elim | cases z.2
  rcases this with rfl | rfl | rfl
  ·exact ⟨_,rfl⟩
  ·exact ⟨_,rfl⟩
  ·exact ⟨_,rfl⟩
 len:=rfl
 free:=fun j x e=>by
  match j,e with
  | 0,e=>cases e;exact ⟨0,rfl,rfl,rfl,rfl,fun c h=>h⟩
  | 1,e=>cases e;exact ⟨2,rfl,rfl,rfl,rfl,fun c h=>h⟩
  | 2,e=>cases e;exact ⟨3,rfl,rfl,rfl,rfl,fun c h=>h⟩
  | j+3,e=>exact absurd e (by rw [List.getElem?_eq_none (by show 6≤3+(j+3);lia)];exact nofun)
abbrev GsIn (H:Hp):List Addr→List Gd→Prop:=Paired fun a p=>H a=some (.tup [.int p.1,.int p.2])
def GsAt (K:ky) (H:Hp) (g:Addr) (gs:List Gd):Prop:=∃as,SqT K H g (as.map V.ref)∧GsIn H as gs
abbrev Sta:=Int × List Gd
def StA (K:ky) (H:Hp) (a:Addr) (s:Sta):Prop:=∃g,SqT K H a [.int s.1,.ref g]∧GsAt K H g s.2
theorem GsIn.same {H H':Hp} {as:List Addr} {gs:List Gd} (h:GsIn H as gs) (s:Same H H'):GsIn H' as gs:=Paired.mapP h fun _ _ e=>s _ _ e
theorem GsAt.same {K:ky} {H H':Hp} {g:Addr} {gs:List Gd} (h:GsAt K H g gs) (s:Same H H'):GsAt K H' g gs:=let ⟨as,h1,h2⟩:=h;⟨as,qJ s h1,h2.same s⟩
theorem StA.same {K:ky} {H H':Hp} {a:Addr} {st:Sta} (h:StA K H a st) (s:Same H H'):StA K H' a st:=let ⟨g,h1,h2⟩:=h;⟨g,qJ s h1,h2.same s⟩
theorem GsIn.append {H:Hp} {as bs:List Addr} {gs hs:List Gd} (h:GsIn H as gs) (k:GsIn H bs hs):GsIn H (as++bs) (gs++hs):=z2h h k
theorem GsIn.dropLast {H:Hp} {as:List Addr} {gs:List Gd} (h:GsIn H as gs):GsIn H as.dropLast gs.dropLast:=by
 induction h with
 | nil=>exact .nil
 | cons h t ih=>
  cases t with
  | nil=>exact .nil
  | cons h2 t=>exact .cons h ih
theorem GsIn.last {H:Hp} {as:List Addr} {gs:List Gd} (h:GsIn H as gs):(as=[]∧gs=[])∨∃bs a g,as=bs++[a]∧gs.getLast?=some g∧H a=some (.tup [.int g.1,.int g.2]):=by
 induction h with
 | nil=>exact .inl ⟨rfl,rfl⟩
 | @cons a g as gs h t ih=>
  rcases ih with ⟨rfl,rfl⟩ | ⟨bs,a',g',e1,e2,e3⟩
  ·exact .inr ⟨[],a,g,rfl,rfl,h⟩
  ·refine .inr ⟨a :: bs,a',g',by rw [e1];rfl,?_,e3⟩
   cases gs with
   | nil=>cases e2
   | cons x y=>rw [List.getLast?_cons_cons];exact e2
section
variable {X:Cx}
def z8d (K:ky):R2:=fun x y H Q=>∃a b xs ys,x=.ref a∧y=.ref b∧SqT K H a xs∧SqT K H b ys∧ys≠[]∧xs.length+ys.length≤sizeLine∧(xs=[]→Q (.ref b) H)∧(xs≠[]→∀p,H p=none→Q (.ref p) (upd H p (.tup (xs++ys))))
theorem z5y:OpR X (binaryOp .Add) (z8d X.K):=by
 intro pins s σ H x y v u Q I rx ry h
 obtain ⟨a,b,xs,ys,rfl,rfl,ha,hb,hy,hz,q1,q2⟩:=h
 by_cases hx:xs=[]
 ·subst hx
  cases rx
  cases ry
  obtain ⟨its,r1,ht,_⟩:=I.tuple ha
  obtain ⟨its2,r2,ht2,_⟩:=I.tuple hb
  cases r1
  obtain ⟨⟨cls,dd,data,sl⟩,ho,hc,n,hd⟩:=id ht
  obtain ⟨⟨cls2,dd2,data2,sl2⟩,ho2,hc2,n2,hd2⟩:=id ht2
  simp only at hc hd hc2 hd2
  subst hc hd hc2 hd2
  exact concat_meets ⟨_,ho,rfl⟩ ⟨_,ho2,rfl⟩ noFill_tuple_add seq_tuple_add PySem.F.slot_tuple_add PySem.F.entry_tuple_add (PySem.F.args_tuple_add_2 _ _)
   (tuple_addW0 a b _ _ n n2 dd dd2 sl sl2 (by simp)) ⟨ho,ho2,.ref b,H,I,rfl,q1 rfl⟩
 ·exact z2u pins s σ H _ _ v u Q I rx ry ⟨a,b,xs,ys,rfl,rfl,ha,hb,hx,hz,fun z=>absurd z hy,fun _=>q2 hx⟩
theorem z4I {A:Around} {s:Shared} {l b:Addr} {vs ws:List Value} (hl:s.heap.IsTuple l vs.toArray) (hb:s.heap.IsTuple b ws.toArray) (hn:vs.length=ws.length) (hu:A.units < cLine)
  (he:∀j (h1:j < vs.length) (h2:j < ws.length),SeqAt.EqAt A.in1 s vs[j] ws[j] true):SeqAt.EqAt A s (.ref l) (.ref b) true:=by
 by_cases z:l=b
 ·subst z;exact SeqAt.EqAt.same _
 ·refine SeqAt.EqAt.of_refs z ?_
  have:=SeqAt.RcAt.tuples (e:=fun _=>true) hl hb hu (fun j h1 h2=>by
   have:=he j (by simpa using h1) (by simpa using h2)
   simpa using this)
  have e:((List.range (min vs.toArray.size ws.toArray.size)).all (fun _=>true)&&vs.toArray.size == ws.toArray.size)=true:=by simp [hn]
  rw [e] at this
  exact this
theorem z1M:∀{xs:List V} {vs ws:List Value} {A:Around} {s:Shared},Vals xs vs→Vals xs ws→(∀x∈xs,ZB x=true∧eqV x x=true)→∀j (h1:j < vs.length) (h2:j < ws.length),SeqAt.EqAt A s vs[j] ws[j] true
 | _,_,_,_,_,.nil,.nil,_,j,h1,_=>absurd h1 (Nat.not_lt_zero _)
 | x :: xs,_,_,A,s,.cons r t,.cons r' t',h,0,_,_=>by
  have e:=z3a (A:=A) (s:=s) r r' (h x (kP ..)).1 (h x (kP ..)).1
  rw [(h x (kP ..)).2] at e
  exact e
 | x :: xs,_,_,A,s,.cons r t,.cons r' t',h,j+1,h1,h2=>z1M t t' (fun y hy=>h y (kQ _ hy)) j (by simpa using h1) (by simpa using h2)
theorem z4a {pins:List (Addr × Obj)} {σ:L2.St} {H:Hp} {s:Shared} {A:Around} {a b:Addr} {g:Gd} (I:Inv X pins σ H s) (ha:H a=some (.tup [.int g.1,.int g.2])) (hb:H b=some (.tup [.int g.1,.int g.2])) (hu:A.units < cLine):SeqAt.EqAt A s (.ref a) (.ref b) true:=by
 obtain ⟨vs,r1,t1,_⟩:=I.tuple (SqT.of ha)
 obtain ⟨ws,r2,t2,_⟩:=I.tuple (SqT.of hb)
 exact z4I t1 t2 (by rw [←r1.length,←r2.length]) hu fun j h1 h2=>z1M r1 r2 (fun x hx=>by
  rcases kD.mp hx with rfl | hx
  ·exact ⟨rfl,by show (g.1 == g.1)=true;simp⟩
  ·rw [ko.mp hx];exact ⟨rfl,by show (g.2 == g.2)=true;simp⟩) j h1 h2
theorem JH {pins:List (Addr × Obj)} {σ:L2.St} {H:Hp} {s:Shared} {A:Around} (I:Inv X pins σ H s) (hu:A.units < cLine):∀{as bs:List Addr} {gs:List Gd} {vs ws:List Value},GsIn H as gs→GsIn H bs gs→Vals (as.map V.ref) vs→Vals (bs.map V.ref) ws→∀j (h1:j < vs.length) (h2:j < ws.length),SeqAt.EqAt A s vs[j] ws[j] true
 | _,_,_,_,_,.nil,.nil,.nil,.nil,j,h1,_=>absurd h1 (Nat.not_lt_zero _)
 | _,_,_,_,_,.cons h t,.cons h' t',.cons r rr,.cons r' rr',0,_,_=>by
  cases r
  cases r'
  exact z4a I h h' hu
 | _,_,_,_,_,.cons h t,.cons h' t',.cons r rr,.cons r' rr',j+1,h1,h2=>JH I hu t t' rr rr' j (by simpa using h1) (by simpa using h2)
theorem z8r {pins:List (Addr × Obj)} {σ:L2.St} {H:Hp} {s:Shared} {A:Around} {a b:Addr} {gs:List Gd} (I:Inv X pins σ H s) (ha:GsAt X.K H a gs) (hb:GsAt X.K H b gs) (hu:A.units+1 < cLine):SeqAt.EqAt A s (.ref a) (.ref b) true:=by
 obtain ⟨as,h1,h2⟩:=ha
 obtain ⟨bs,h3,h4⟩:=hb
 obtain ⟨vs,r1,t1,_⟩:=I.tuple h1
 obtain ⟨ws,r2,t2,_⟩:=I.tuple h3
 have e1:=Paired.length h2
 have e2:=Paired.length h4
 refine z4I t1 t2 ?_ (by lia) (JH I (by show A.units+1 < cLine;exact hu) h2 h4 r1 r2)
 rw [←r1.length,←r2.length,kj,kj,e1,e2]
def z8b (K:ky):R2:=fun x y H Q=>∃a b st,x=.ref a∧y=.ref b∧StA K H a st∧StA K H b st∧Q (.bl false) H
theorem z5v (hu:X.A.units+3 < cLine):OpR X (compareOp .NotEq) (z8b X.K):=by
 intro pins s σ H x y v u Q I rx ry h
 obtain ⟨a,b,st,rfl,rfl,⟨g,h1,h2⟩,⟨g',h3,h4⟩,q⟩:=h
 cases rx
 cases ry
 obtain ⟨vs,r1,t1,_⟩:=I.tuple h1
 obtain ⟨ws,r2,t2,_⟩:=I.tuple h3
 have e:(!((List.range (min vs.toArray.size ws.toArray.size)).all (fun _=>true)&&vs.toArray.size == ws.toArray.size))=false:=by
  have z1:=r1.length
  have z2:=r2.length
  have z:vs.length=ws.length:=z1.symm.trans z2
  simp only [kE]
  rw [z]
  simp
 refine SeqAt.RcNeAt.tuples (e:=fun _=>true) t1 t2 (by lia) (fun j j1 j2=>?_) X.prog X.w X.xe _ ⟨.bl _,H,I,rfl,by rw [e];exact q⟩
 cases r1 with
 | cons ra rb=>
  cases r2 with
  | cons rc rd=>
   cases rb with
   | cons re rf=>
    cases rd with
    | cons rg rh=>
     cases rf
     cases rh
     match j,j1,j2 with
     | 0,_,_=>
      have e:=z3a (A:=X.A.in1) (s:=s) ra rc rfl rfl
      rw [show eqV (V.int st.1) (V.int st.1)=true by show (st.1 == st.1)=true;simp] at e
      exact e
     | 1,_,_=>
      cases re
      cases rg
      exact z8r I h2 h4 (by show X.A.units+1+1 < cLine;lia)
     | j+2,j1,_=>exact absurd j1 (by simp)
end
noncomputable def z0X (r:Row) (d:Int) (gs:List Gd) (more:Int):List Gd:=if more=1 then gs++[(argM r.arg,d)] else if more= -1 then gs.dropLast else gs
section
def spGb (K:ky):Sp:=fun vs H Q _=>∃ra st r d g gs more,vs=[.ref ra,.ref st,.int more]∧H ra=some (.tup (tupV r))∧SqT K H st [.int d,.ref g]∧GsAt K H g gs∧gs.length≤1000∧(more=1→∃m,r.arg=.int m)∧(more= -1→gs≠[])∧
 ∀g' H',Same H H'→GsAt K H' g' (z0X r d gs more)→Q (.ref g') H'
theorem sc55:zj ["row","state","more","depth","guards"] ["row","state","more"] (zd (top 55)):=fsM
theorem z4D {α:Type} (xs:List V) (h:xs≠[]):cutV xs none (some (-1))=xs.dropLast∧¬(HT.sIx xs.length 0 none=0∧HT.sIx xs.length xs.length (some (-1))=xs.length):=by
 have hp:0 < xs.length:=List.length_pos_iff.mpr h
 have e:HT.sIx xs.length xs.length (some (-1))=xs.length - 1:=by
  show (if (-1:Int) < 0 then ((-1:Int)+(xs.length:Int)).toNat else min (-1:Int).toNat xs.length)=_
  rw [kA (by decide)]
  lia
 refine ⟨?_,fun z=>by rw [e] at z;lia⟩
 unfold cutV
 rw [e]
 show (xs.drop 0).take (xs.length - 1 - 0)=_
 rw [List.drop_zero,Nat.sub_zero,List.dropLast_eq_take]
theorem z8C (D:zm K mg "guards_behind" (top 55)):FN P w K mg base 1 "guards_behind" ["row","state","more"] (spGb K):=by
 refine FN.o D sc55 fun f cdv A outer s H vs Q E hr h=>?_
 obtain ⟨ra,st,r,d,g,gs,more,rfl,har,hst,⟨as,hga,hgs⟩,hz,h1,h2,q⟩:=h
 refine ⟨_,zb (qO (pv 1) (qU rfl (zp (zw (i:=3) sc55.nd rfl (Or.inl rfl)) (zp (zw (i:=4) sc55.nd rfl (Or.inl rfl)) qh))))
  (zb (zJ (zn qC (pv 2) zh (zt _)) (zf (zk (zY z5y (pv 4) (zB (z6 (zB (z6 (zS qp (pv 0) zh (fun _ _=>rfl)) (z6 (pv 3) z8))) z8))))) zq)
  (zf (zk (qG (zn qC (pv 2) (jP qS zh) (zt _)) (z0N z6P (pv 4) z2k (z2j (jP qS zh))) (pv 4))))),?_⟩
 refine ⟨_,rfl,st,_,rfl,hst,rfl,_,_,rfl,_,_,rfl,rfl,?_⟩
 refine ⟨_,rfl,rfl,_,rfl,?_⟩
 have hal:as.length=gs.length:=Paired.length hgs
 unfold z0X at q
 refine ite2 (fun c=>?_) (fun c=>?_)
 ·have e:more=1:=by have:=kC c;injection this
  obtain ⟨m,em⟩:=h1 e
  rw [kA e,em] at q
  refine ⟨_,rfl,_,rfl,ra,_,_,_,rfl,rfl,SqT.of har,zr (j:=1) rfl,_,rfl,by show 2≤sizeLine;decide,fun p hp=>⟨by show 1≤sizeLine;decide,fun p2 hp2=>?_⟩⟩
  have s1:=zg hp (.tup [r.arg,.int d])
  have s2:=zg hp2 (.tup [.ref p])
  have hp':(upd (upd H p (.tup [r.arg,.int d])) p2 (.tup [.ref p])) p=some (.tup [.int (argM (.int m)),.int d]):=by
   rw [←em]
   have:=s2 _ _ (z7 (H:=H) (a:=p) (o:=.tup [r.arg,.int d]))
   rw [this,em]
   rfl
  have s12:=s1.trans s2
  refine ⟨g,p2,as.map V.ref,[.ref p],rfl,rfl,qJ s12 hga,SqT.of z7,nofun,by rw [kj];show as.length+1≤_;rw [sizeLine_eq];lia,fun z=>?_,fun z p3 hp3=>?_⟩
  ·have za:as=[]:=by simpa using z
   subst za
   cases hgs
   exact q p2 _ s12 ⟨[p],SqT.of z7,.cons hp' .nil⟩
  ·have s3:=zg hp3 (.tup (as.map V.ref++[.ref p]))
   exact q p3 _ (s12.trans s3) ⟨as++[p],SqT.of (by rw [kJ];exact z7),((hgs.same s12).same s3).append (.cons (s3 _ _ hp') .nil)⟩
 ·have e:¬more=1:=fun z=>c (by rw [z];rfl)
  rw [kz e] at q
  refine ⟨_,rfl,1,rfl,rfl,_,rfl,?_⟩
  refine ite2 (fun c2=>?_) (fun c2=>?_)
  ·have e2:more= -1:=by have:=kC c2;injection this
   rw [kA e2] at q
   have hne:as.map V.ref≠[]:=fun z=>h2 e2 (by
    have za:as=[]:=by simpa using z
    rw [za] at hal
    exact List.length_eq_zero_iff.mp hal.symm)
   obtain ⟨k1,k2⟩:=z4D (α:=V) _ hne
   refine ⟨_,rfl,1,rfl,-1,rfl,g,_,rfl,hga,k2,fun p hp=>?_⟩
   rw [k1]
   have s1:=zg hp (.tup (as.map V.ref).dropLast)
   refine q p _ s1 ⟨as.dropLast,SqT.of (by rw [List.map_dropLast];exact z7),(hgs.dropLast).same s1⟩
  ·have e2:¬more= -1:=fun z=>c2 (by rw [z];rfl)
   rw [kz e2] at q
   exact ⟨_,rfl,q g H (Same.refl _) ⟨as,hga,hgs⟩⟩
end
noncomputable def isT:HO→Bool
 | .tup _=>true
 | .frz _ _=>true
 | _=>false
def qd (H H':Hp):Prop:=∀b o,H b=some o→isT o=true→H' b=some o
theorem qd.trans {H H1 H2:Hp} (a:qd H H1) (b:qd H1 H2):qd H H2:=fun c o h t=>b c o (a c o h t) t
theorem qd.of {H H':Hp} (s:Same H H'):qd H H':=fun b o h _=>s b o h
theorem qd.upd {H:Hp} {l:Addr} {o u:HO} (h:H l=some u) (hu:isT u=false):qd H (upd H l o):=fun b x e t=>by
 rw [ze (fun z=>by rw [z,h] at e;cases e;rw [hu] at t;cases t)];exact e
theorem qK {K:ky} {H H':Hp} {a:Addr} {xs:List V} (s:qd H H') (h:SqT K H a xs):SqT K H' a xs:=by
 rcases h with (h | ⟨o,h⟩) | h
 ·exact .inl (.inl (s _ _ h rfl))
 ·exact .inl (.inr ⟨o,s _ _ h rfl⟩)
 ·exact .inr h
theorem GsIn.keep {H H':Hp} {as:List Addr} {gs:List Gd} (h:GsIn H as gs) (s:qd H H'):GsIn H' as gs:=Paired.mapP h fun _ _ e=>s _ _ e rfl
theorem GsAt.keep {K:ky} {H H':Hp} {g:Addr} {gs:List Gd} (h:GsAt K H g gs) (s:qd H H'):GsAt K H' g gs:=let ⟨as,h1,h2⟩:=h;⟨as,qK s h1,h2.keep s⟩
theorem StA.keep {K:ky} {H H':Hp} {a:Addr} {st:Sta} (h:StA K H a st) (s:qd H H'):StA K H' a st:=let ⟨g,h1,h2⟩:=h;⟨g,qK s h1,h2.keep s⟩
abbrev NxIn (K:ky) (H:Hp):List Addr→List (V × Sta)→Prop:=Paired fun t n=>∃a,H t=some (.tup [n.1,.ref a])∧StA K H a n.2
theorem NxIn.keep {K:ky} {H H':Hp} {ts:List Addr} {ns:List (V × Sta)} (h:NxIn K H ts ns) (s:qd H H'):NxIn K H' ts ns:=Paired.mapP h fun _ _ z=>z.elim fun a q=>⟨a,s _ _ q.1 rfl,q.2.keep s⟩
theorem NxIn.append {K:ky} {H:Hp} {as bs:List Addr} {gs hs:List (V × Sta)} (h:NxIn K H as gs) (k:NxIn K H bs hs):NxIn K H (as++bs) (gs++hs):=z2h h k
theorem NxIn.get {K:ky} {H:Hp} {as:List Addr} {rs:List (V × Sta)} {i:Nat} {x:V} (h:NxIn K H as rs) (e:(as.map V.ref)[i]?=some x):∃t n a,x=.ref t∧rs[i]?=some n∧H t=some (.tup [n.1,.ref a])∧StA K H a n.2:=by
 obtain ⟨t,n,h1,h2,a,h3⟩:=z2g h e
 exact ⟨t,n,a,h1,h2,h3⟩
noncomputable def Jp (rs:List Row) (place:Nat) (r:Row) (st:Sta):List (V × Sta):=(ja rs place r st.1 st.2.getLast?).map fun m=>(m.1,(m.2.1,z0X r st.1 st.2 m.2.2))
theorem z4b {x:Str} (h:tabI jc x=1):x="try":=by
 unfold tabI at h
 cases e:jc.lookup x with
 | none=>rw [e] at h;cases h
 | some v=>
  have hm:=PySem.mem_of_lookup e
  rw [e] at h
  simp only [jc,kD,Prod.mk.injEq,kq,or_false] at hm
  rcases hm with ⟨z,_⟩ | ⟨_,z⟩
  ·exact z
  ·rw [z] at h;cases h
theorem z4c {x:Str} (h:tabI jc x= -1):x="endtry":=by
 unfold tabI at h
 cases e:jc.lookup x with
 | none=>rw [e] at h;cases h
 | some v=>
  have hm:=PySem.mem_of_lookup e
  rw [e] at h
  simp only [jc,kD,Prod.mk.injEq,kq,or_false] at hm
  rcases hm with ⟨_,z⟩ | ⟨z,_⟩
  ·rw [z] at h;cases h
  ·exact z
theorem z1j {rs:List Row} {place:Nat} {r:Row} {d:Int} {gs:List Gd} (hok:ZE r):∀m∈ja rs place r d gs.getLast?,(m.2.2=1→∃k,r.arg=.int k)∧(m.2.2= -1→gs≠[]):=by
 intro m hm
 unfold ja at hm
 split at hm
 ·cases hm
 ·split at hm
  ·cases hm
  ·rename_i _ hG
   rcases kR.mp hm with hm | hm
   ·rcases kR.mp hm with hm | hm
    ·unfold mv1 at hm
     split at hm
     ·cases hm
     ·rw [ko.mp hm]
      refine ⟨fun h=>?_,fun h=>?_⟩
      ·have e:=z4b h
       obtain ⟨s,hs,hfit,_⟩:=hok.parts
       rw [e,show qv "try"=some ("mark":Str) by trivial] at hs
       cases hs
       obtain ⟨k,hk,_⟩:=jZ hfit
       exact ⟨k,hk⟩
      ·have e:=z4c h
       intro z
       subst z
       exact hG (by unfold Jv;rw [e];decide)
    ·unfold mv2 at hm
     split at hm
     ·rw [ko.mp hm]
      exact ⟨fun h=>absurd (show (0:Int)=1 from h) (by decide),fun h=>absurd (show (0:Int)= -1 from h) (by decide)⟩
     ·cases hm
   ·unfold mv3 at hm
    split at hm
    ·cases e:gs.getLast? with
     | none=>rw [e] at hm;cases hm
     | some g=>
      rw [e] at hm
      rw [ko.mp hm]
      refine ⟨fun h=>absurd (show (-1:Int)=1 from h) (by decide),fun _ z=>?_⟩
      subst z
      cases e
    ·cases hm
theorem z46 {X:Cx} {K:ky} (hK:X.K=K):IxR X (rIxL K):=by subst hK;exact zN
theorem Js (rs:List Row) (place:Nat) (r:Row) (d:Int) (og:Option Gd):(ja rs place r d og).length≤3:=by
 unfold ja mv1 mv2 mv3
 repeat' split
 all_goals simp
theorem nd52:N52.Nodup:=by trivial
section
theorem GsAt.guardV {H:Hp} {g:Addr} {gs:List Gd} (h:GsAt K H g gs):∃as:List Addr,SqT K H g (as.map V.ref)∧((as=[]∧jF H .non gs.getLast?)∨∃bs a,as=bs++[a]∧jF H (.ref a) gs.getLast?):=by
 obtain ⟨as,h1,h2⟩:=h
 refine ⟨as,h1,?_⟩
 rcases h2.last with ⟨e1,e2⟩ | ⟨bs,a,g',e1,e2,e3⟩
 ·exact .inl ⟨e1,by rw [e2];rfl⟩
 ·exact .inr ⟨bs,a,e1,by rw [e2];exact ⟨a,rfl,e3⟩⟩
def z5d (K:ky):Sp:=fun vs H Q _=>∃(g:Addr) (gs:List Gd),vs=[.ref g]∧GsAt K H g gs∧∀gv,jF H gv gs.getLast?→Q gv H
theorem up2 (F:FN P w K mg base 1 "uppermost" ["guards"] (spUp K)):FN P w K mg base 1 "uppermost" ["guards"] (z5d K):=F.imp fun vs H Q E ⟨g,gs,e,h,q⟩=>by
 obtain ⟨as,h1,h2⟩:=h.guardV
 refine ⟨g,as,e,h1,?_⟩
 rcases h2 with ⟨a,b⟩ | ⟨bs,a,e1,b⟩
 ·exact .inl ⟨a,q _ b⟩
 ·exact .inr ⟨bs,a,e1,q _ b⟩
def z0H (K:ky):Sp:=fun vs H Q _=>∃l d place sa st rs r,vs=[.ref l,.ref d,.int (place:Nat),.ref sa]∧z03 K H l d rs∧rs[place]?=some r∧StA K H sa st∧st.2.length≤1000∧
 ∀f ts H',Same H H'→H f=none→H' f=some (.lst (ts.map V.ref))→NxIn K H' ts (Jp rs place r st)→Q (.ref f) H'
theorem z61 (D:zm K mg "next_states" (top 56)) (FU:FN P w K mg base 1 "uppermost" ["guards"] (z5d K)) (FM:FN P w K mg base 3 "moves" ["code","labels","place","depth","guard"] (z07 K)) (FB:FN P w K mg base 1 "guards_behind" ["row","state","more"] (spGb K)):
  FN P w K mg base 4 "next_states" ["code","labels","place","state"] (z0H K):=by
 refine FN.o D sc56 fun f cdv A outer s H vs Q E hr h=>?_
 obtain ⟨l,d,place,sa,st,rs,r,rfl,hC,hrp,⟨g,hsa,hgs⟩,hz,q⟩:=h
 have hr1:=hr.mono (show 1≤3 by decide)
 refine ⟨_,zb (qO (pv 3) (qU rfl (zp (zw (i:=4) sc56.nd rfl (Or.inl rfl)) (zp (zw (i:=5) sc56.nd rfl (Or.inl rfl)) qh))))
  (zf (zk (ZL (N:=N52) (nt:=3) (ix:=[0,2,3]) (cl:=cl52 s.heap.objs.size) rfl cs52 (z0f (zu FM hr rfl (z6 (pv 0) (z6 (pv 1) (z6 (pv 2) (z6 (pv 4) (z6 (zu FU hr1 rfl (z6 (pv 5) z8)) z8)))))))
   (fun _ _ _ _=>Zf (K:=K) (n:=3) rfl rfl (zp (zw (i:=0) nd52 rfl (Or.inl rfl)) (zp (zw (i:=1) nd52 rfl (Or.inl rfl)) (zp (zw (i:=2) nd52 rfl (Or.inl rfl)) qh))))
   (fun _ _ _ _=>Zc)
   (fun _ _ _ _=>zB (z6 (pv 0) (z6 (zB (z6 (pv 1) (z6 (zu FB hr1 rfl (z6 (zS (z46 (K:=K) rfl) (pv 3) (pv 4) (fun _ _=>rfl)) (z6 (pv 5) (z6 (pv 2) z8)))) z8))) z8)))))),?_⟩
 refine ⟨_,rfl,sa,_,rfl,hsa,rfl,_,_,rfl,_,_,rfl,rfl,?_⟩
 refine ⟨_,rfl,_,rfl,_,rfl,_,rfl,_,rfl,g,st.2,rfl,hgs,fun gv hgv=>?_⟩
 refine ⟨l,d,place,st.1,gv,_,rs,r,rfl,hC,hrp,hgv,fun ml ts H1 s1 hn1 hm1 hM1=>?_⟩
 obtain ⟨⟨as,hS,hR⟩,hc,_⟩:=id hC
 have hro:=hc.ok r (kG hrp)
 have hmm:=z1j (rs:=rs) (place:=place) (d:=st.1) (gs:=st.2) hro
 have hlen:=Js rs place r st.1 st.2.getLast?
 unfold Jp at q
 generalize hms:ja rs place r st.1 st.2.getLast?=ms at hM1 hmm hlen q
 refine ⟨ml,rfl,⟨_,SqL.of hm1⟩,fun nl hnl=>Qz (K:=K) (a:=ml) (xs:=ts.map V.ref) (fun i ys σ H2=>(∃a b c,σ=[a,b,c,some (.ref l),some (.int (place:Nat)),some (.ref sa)])∧
   ∃us:List Addr,ys=us.map V.ref∧NxIn K H2 us ((ms.take i).map fun m=>(m.1,(m.2.1,z0X r st.1 st.2 m.2.2)))∧Same H1 H2∧H2 nl=some (.lst ys))
  ⟨⟨none,none,none,rfl⟩,[],rfl,.nil,zg hnl _,z7⟩ (fun i ys σ H2 _ ⟨_,_,_,_,s2,_⟩=>s2.seq (SqL.of hm1)) ?_ ?_⟩
 ·rintro i x ys σ H2 hi ⟨⟨a,b,c,rfl⟩,us,rfl,hN,s2,hp2⟩
  obtain ⟨t,m,rfl,hm,ht⟩:=(hM1.same fun a xs e=>s2 _ _ e).get hi
  have hil:i < ts.length:=by have:=(kf.mp hi).1;simpa using this
  have hml:ts.length=ms.length:=Paired.length hM1
  have hul:us.length=(ms.take i).length:=by have:=Paired.length hN;simpa using this
  have sH:=s1.trans s2
  obtain ⟨ra,hra,har⟩:=hR.get' hrp
  obtain ⟨mm1,mm2⟩:=hmm m (kG hm)
  refine ⟨t,_,rfl,SqT.of ht,rfl,_,_,rfl,_,_,rfl,_,_,rfl,rfl,?_⟩
  refine Z8 ⟨_,rfl,_,rfl,_,rfl,_,rfl,l,_,_,_,rfl,rfl,sH.seq hS,zr hra,_,rfl,_,rfl,ra,sa,r,st.1,g,st.2,m.2.2,rfl,sH _ _ har,qJ sH hsa,hgs.same sH,hz,mm1,mm2,fun g' H3 s3 hg'=>?_⟩
  refine ⟨by show 2≤sizeLine;decide,fun p1 hp1=>⟨by show 2≤sizeLine;decide,fun p2 hp2'=>?_⟩⟩
  have t1:=zg hp1 (.tup [.int m.2.1,.ref g'])
  have t2:=zg hp2' (.tup [m.1,.ref p1])
  have t12:=t1.trans t2
  have sE:=s3.trans t12
  have hnl5:=sE _ _ hp2
  refine ⟨hnl5,?_,_,by rw [kj];lia,rfl,by rw [kj];lia,⟨_,_,_,rfl⟩,us++[p2],by rw [kJ];rfl,?_,?_,z7⟩
  ·rw [kj,hul,List.length_take]
   exact zV (by lia)
  ·rw [qI hm,kJ]
   have kT:=qd.upd (o:=.lst (us.map V.ref++[.ref p2])) hnl5 rfl
   refine NxIn.append ((hN.keep (qd.of sE)).keep kT) (.cons ⟨p1,kT _ _ z7 rfl,StA.keep ⟨g',SqT.of (t2 _ _ z7),hg'.same t12⟩ kT⟩ .nil)
  ·exact fun b o e=>by rw [ze (zc e hnl)];exact sE _ _ (s2 _ _ e)
 ·rintro ys σ H2 ⟨_,us,rfl,hN,s2,hp2⟩
  have hml:ts.length=ms.length:=Paired.length hM1
  rw [kj,hml,List.take_length] at hN
  exact q nl us H2 (s1.trans s2) (s1.free hnl) hp2 hN
def spSw (K:ky):Sp:=fun vs H Q _=>∃l d place sa st rs r,vs=[.ref l,.ref d,.int (place:Nat),.ref sa]∧z03 K H l d rs∧rs[place]?=some r∧StA K H sa st∧
 ∀f H',Same H H'→H f=none→H' f=some (.lst ((Zt rs place r st.1 st.2.getLast?).map V.str))→Q (.ref f) H'
theorem sc57:zj ["code","labels","place","state"] ["code","labels","place","state"] (zd (top 57)):=fsM
theorem z8x (D:zm K mg "state_words" (top 57)) (FU:FN P w K mg base 1 "uppermost" ["guards"] (z5d K)) (FW:FN P w K mg base 4 "words_lacking" ["code","labels","place","depth","guard"] (z1T K)):FN P w K mg base 5 "state_words" ["code","labels","place","state"] (spSw K):=by
 refine FN.o D sc57 fun f cdv A outer s H vs Q E hr h=>?_
 obtain ⟨l,d,place,sa,st,rs,r,rfl,hC,hrp,⟨g,hsa,hgs⟩,q⟩:=h
 refine ⟨_,zf (zk (zu FW hr rfl (z6 (pv 0) (z6 (pv 1) (z6 (pv 2) (z6 (zS qp (pv 3) zh (fun _ _=>rfl)) (z6 (zu FU (hr.mono (by decide)) rfl (z6 (zS qp (pv 3) zh (fun _ _=>rfl)) z8)) z8))))))),?_⟩
 refine ⟨_,rfl,_,rfl,_,rfl,_,rfl,sa,_,_,_,rfl,rfl,hsa,zr (j:=0) rfl,_,rfl,sa,_,_,_,rfl,rfl,hsa,zr (j:=1) rfl,g,st.2,rfl,hgs,fun gv hgv=>?_⟩
 exact ⟨l,d,place,st.1,gv,_,rs,r,rfl,hC,hrp,hgv,q⟩
end
abbrev Fnd:=List (Option Sta)
noncomputable def Jh:List (V × Sta)→Fnd→List Nat→Option (Fnd × List Nat)
 | [],f,w=>some (f,w)
 | (x,s) :: r,f,w=>match x with
  | .int j=>if 0≤j then (match f[j.toNat]? with
   | some none=>Jh r (f.set j.toNat (some s)) (w++[j.toNat])
   | some (some s')=>if s'=s then Jh r f w else none
   | none=>none) else none
  | _=>none
noncomputable def bfs (rs:List Row):Nat→Fnd→List Nat→Option Fnd
 | _,f,[]=>some f
 | 0,_,_ :: _=>none
 | n+1,f,p :: w=>match rs[p]?,f[p]? with
  | some r,some (some s)=>if (Zt rs p r s.1 s.2.getLast?).isEmpty=true∧s.2.length≤1000 then (match Jh (Jp rs p r s) f w with
   | some (f',w')=>bfs rs n f' w'
   | none=>none) else none
  | _,_=>none
noncomputable def jw (rs:List Row):Option Fnd:=bfs rs 300 ((List.replicate rs.length none).set 0 (some (0,[]))) [0]
abbrev qk (K:ky) (H:Hp):List V→Fnd→Prop:=Paired fun x o=>match o with
 | none=>x=.non
 | some st=>∃a,x=.ref a∧StA K H a st
theorem qk.keep {K:ky} {H H':Hp} {xs:List V} {os:Fnd} (h:qk K H xs os) (s:qd H H'):qk K H' xs os:=Paired.mapP h fun _ o z=>by
 cases o with
 | none=>exact z
 | some st=>
  obtain ⟨a,h1,h2⟩:=z
  exact ⟨a,h1,h2.keep s⟩
theorem qk.get {K:ky} {H:Hp} {xs:List V} {os:Fnd} {j:Nat} {o:Option Sta} (h:qk K H xs os):os[j]?=some o→∃x,xs[j]?=some x∧(match o with | none=>x=.non | some st=>∃a,x=.ref a∧StA K H a st):=z70 h
theorem qk.set {K:ky} {H:Hp} {a:Addr} {st:Sta} (hs:StA K H a st):∀{xs:List V} {os:Fnd} (j:Nat),qk K H xs os→qk K H (xs.set j (.ref a)) (os.set j (some st))
 | _,_,_,.nil=>.nil
 | _,_,0,.cons _ t=>.cons ⟨a,rfl,hs⟩ t
 | _,_,j+1,.cons h t=>.cons h (qk.set hs j t)
theorem Zm (K:ky) (H:Hp):∀n:Nat,qk K H (List.replicate n V.non) (List.replicate n none)
 | 0=>.nil
 | n+1=>.cons rfl (Zm K H n)
def z0y (H:Hp) (kvs:List (Key × V)) (f:Fnd) (B:Nat):Prop:=∀(p:Nat) st,f[p]?=some (some st)→∃t ns,valV kvs (Sum.inl (p:Int):Key)=some (.ref t)∧H t=some (.tup ns)∧ns≠[]∧ns.length≤B
theorem z0y.keep {H H':Hp} {kvs:List (Key × V)} {f:Fnd} {B:Nat} (h:z0y H kvs f B) (s:qd H H'):z0y H' kvs f B:=fun p st e=>let ⟨t,ns,h1,h2,h3⟩:=h p st e;⟨t,ns,h1,s _ _ h2 rfl,h3⟩
theorem z0y.mono {H:Hp} {kvs:List (Key × V)} {f:Fnd} {B B':Nat} (h:z0y H kvs f B) (hb:B≤B'):z0y H kvs f B':=fun p st e=>let ⟨t,ns,h1,h2,h3,h4⟩:=h p st e;⟨t,ns,h1,h2,h3,ku h4 hb⟩
structure Srch (K:ky) (H0 H:Hp) (d fl wd wl:Addr) (rs:List Row) (f:Fnd) (w:List Nat) (B C:Nat):Prop where
 same:Same H0 H
 labs:∃kvs,H d=some (.dK kvs)∧Zr kvs rs
 nf:H0 fl=none
 nw:H0 wd=none
 nl:H0 wl=none
 fnd:∃fvs,H fl=some (.lst fvs)∧qk K H fvs f
 wks:∃kvs,H wd=some (.dK kvs)∧z0y H kvs f B∧kvs.length≤C
 wts:H wl=some (.lst (w.map fun p=>V.int (p:Nat)))
 wlen:w.length≤C
 flen:f.length=rs.length
 nd:d≠wd
 nfw:fl≠wl
theorem Srch.same' {K:ky} {H0 H H':Hp} {d fl wd wl:Addr} {rs:List Row} {f:Fnd} {w:List Nat} {B C:Nat} (h:Srch K H0 H d fl wd wl rs f w B C) (s:Same H H'):Srch K H0 H' d fl wd wl rs f w B C:=by
 obtain ⟨a1,⟨kv,b1,b2⟩,a3,a4,a5,⟨fvs,a6,a7⟩,⟨kvs,a8,a9,a10⟩,a11,a12,a13,a14,a15⟩:=h
 have kt:=qd.of s
 exact ⟨a1.trans s,⟨kv,s _ _ b1,b2⟩,a3,a4,a5,⟨fvs,s _ _ a6,a7.keep kt⟩,⟨kvs,s _ _ a8,a9.keep kt,a10⟩,s _ _ a11,a12,a13,a14,a15⟩
theorem Srch.more {K:ky} {H0 H:Hp} {d fl wd wl:Addr} {rs:List Row} {f:Fnd} {w:List Nat} {B B' C C':Nat} (h:Srch K H0 H d fl wd wl rs f w B C) (hb:B≤B') (hc:C≤C'):Srch K H0 H d fl wd wl rs f w B' C':=by
 obtain ⟨a1,a2,a3,a4,a5,a6,⟨kvs,a8,a9,a10⟩,a11,a12,a13,a14,a15⟩:=h
 exact ⟨a1,a2,a3,a4,a5,a6,⟨kvs,a8,a9.mono hb,by lia⟩,a11,by lia,a13,a14,a15⟩
theorem Srch.code {K:ky} {H0 H:Hp} {l d fl wd wl:Addr} {as:List Addr} {rs:List Row} {f:Fnd} {w:List Nat} {B C:Nat} (h:Srch K H0 H d fl wd wl rs f w B C) (hS:SqL K H0 l (as.map V.ref)) (hR:zL H0 as rs) (hc:Code rs):z03 K H l d rs:=
 ⟨⟨as,h.same.seq hS,hR.same h.same⟩,hc,h.labs⟩
theorem Srch.pop {K:ky} {H0 H:Hp} {d fl wd wl:Addr} {rs:List Row} {f:Fnd} {p:Nat} {w:List Nat} {B C:Nat} (h:Srch K H0 H d fl wd wl rs f (p :: w) B C):Srch K H0 (upd H wl (.lst (w.map fun p=>V.int (p:Nat)))) d fl wd wl rs f w B C:=by
 obtain ⟨a1,⟨kv,b1,b2⟩,a3,a4,a5,⟨fvs,a6,a7⟩,⟨kvs,a8,a9,a10⟩,a11,a12,a13,a14,a15⟩:=h
 have kt:=qd.upd (o:=.lst (w.map fun p=>V.int (p:Nat))) a11 rfl
 exact ⟨fun b o e=>by rw [ze (zc e a5)];exact a1 _ _ e,⟨kv,by rw [ze (zD b1 a11 nofun)];exact b1,b2⟩,a3,a4,a5,⟨fvs,by rw [ze a15];exact a6,a7.keep kt⟩,
  ⟨kvs,by rw [ze (zD a8 a11 nofun)];exact a8,a9.keep kt,a10⟩,z7,by simp at a12;lia,a13,a14,a15⟩
theorem Srch.put {K:ky} {H0 H:Hp} {d fl wd wl:Addr} {rs:List Row} {f:Fnd} {w:List Nat} {B C:Nat} (h:Srch K H0 H d fl wd wl rs f w B C) {j:Nat} {a t:Addr} {st:Sta} {ns fvs:List V} {kvs:List (Key × V)} (hf:H fl=some (.lst fvs)) (hw:H wd=some (.dK kvs))
  (hs:StA K H a st) (ht:H t=some (.tup ns)) (hn:ns≠[]) (hl:ns.length≤B) (hj:f[j]?=some none):
  Srch K H0 (upd (upd (upd H fl (.lst (fvs.set j (.ref a)))) wd (.dK (putK kvs (Sum.inl (j:Int)) (.ref t)))) wl (.lst ((w.map fun p=>V.int (p:Nat))++[V.int (j:Nat)]))) d fl wd wl rs (f.set j (some st)) (w++[j]) B (C+1):=by
 obtain ⟨a1,⟨kv,b1,b2⟩,a3,a4,a5,⟨fvs',a6,a7⟩,⟨kvs',a8,a9,a10⟩,a11,a12,a13,a14,a15⟩:=h
 rw [hf] at a6
 cases a6
 rw [hw] at a8
 cases a8
 have nwf:wd≠fl:=zD hw hf nofun
 have nwl:wd≠wl:=zD hw a11 nofun
 have k1:=qd.upd (o:=.lst (fvs.set j (.ref a))) hf rfl
 have e2:(upd H fl (.lst (fvs.set j (.ref a)))) wd=some (.dK kvs):=by rw [ze nwf];exact hw
 have k2:=k1.trans (qd.upd (o:=.dK (putK kvs (Sum.inl (j:Int)) (.ref t))) e2 rfl)
 have e3:(upd (upd H fl (.lst (fvs.set j (.ref a)))) wd (.dK (putK kvs (Sum.inl (j:Int)) (.ref t)))) wl=some (.lst (w.map fun p=>V.int (p:Nat))):=by rw [ze nwl.symm,ze a15.symm];exact a11
 have k3:=k2.trans (qd.upd (o:=.lst ((w.map fun p=>V.int (p:Nat))++[V.int (j:Nat)])) e3 rfl)
 refine ⟨fun b o e=>by rw [ze (zc e a5),ze (zc e a4),ze (zc e a3)];exact a1 _ _ e,⟨kv,by rw [ze (zD b1 a11 nofun),ze a14,ze (zD b1 hf nofun)];exact b1,b2⟩,a3,a4,a5,
  ⟨_,by rw [ze a15,ze nwf.symm];exact z7,(a7.set hs j).keep k3⟩,⟨_,by rw [ze nwl];exact z7,fun p st' e=>?_,?_⟩,?_,by simp;lia,by simp [a13],a14,a15⟩
 ·rw [QC]
  by_cases z:p=j
  ·subst z
   rw [kA rfl]
   exact ⟨t,ns,rfl,k3 _ _ ht rfl,hn,hl⟩
  ·rw [kz (fun y=>z (by injection y with y;lia))]
   rw [List.getElem?_set,kz (fun y=>z y.symm)] at e
   obtain ⟨t',ns',h1,h2,h3⟩:=a9 p st' e
   exact ⟨t',ns',h1,k3 _ _ h2 rfl,h3⟩
 ·have:=qF kvs (Sum.inl (j:Int):Key) (V.ref t)
  lia
 ·rw [z7,kJ]
  rfl
section
def Ql (K:ky):Sp:=fun vs H Q _=>∃l as rs fin,vs=[.ref l]∧SqL K H l (as.map V.ref)∧zL H as rs∧Code rs∧jw rs=some fin∧
 ∀t fl fvs H',Same H H'→H t=none→H fl=none→H' t=some (.tup [.ref fl,.non])→H' fl=some (.lst fvs)→qk K H' fvs fin→Q (.ref t) H'
theorem sc58:zj ["code","labels","found","walks","waiting","place","words","goal","state","walk"] ["code"] (zd (top 58)):=fsM
theorem pop0 {xs:List V} {y:V} {ys:List V} (h:xs=y :: ys):seqIndex? 0 xs.length=some 0∧xs[0]?=some y∧xs.eraseIdx 0=ys:=by
 subst h
 refine ⟨?_,rfl,rfl⟩
 unfold seqIndex?
 simp
noncomputable def st54:Stmt:=match (zE (top 58)).getD 5 (.Pass ⟨0,0,0,0⟩) with
 | .While _ b _ _=>b.getD 3 (.Pass ⟨0,0,0,0⟩)
 | s=>s
noncomputable abbrev N54:List Str:=["code","labels","found","walks","waiting","place","words","goal","state","walk"]
def z6V (K:ky) (H:Hp) (l:Addr) (rs:List Row):TS:=fun D σ H3=>∃(d fl wd wl:Addr) (p:Nat) (r:Row) (st:Sta) (n:Nat) (v6 v7 v8 v9:Option V) (fo:Fnd) (wa:List Nat) (foE:Fnd) (waE:List Nat),
 σ=[some (.ref l),some (.ref d),some (.ref fl),some (.ref wd),some (.ref wl),some (.int (p:Nat)),v6,v7,v8,v9]∧n≤299∧rs[p]?=some r∧fo[p]?=some (some st)∧st.2.length≤1000∧Jh (Jp rs p r st) fo wa=some (foE,waE)∧
 Srch K H H3 d fl wd wl rs fo wa (300 - n) (3 * (300 - n))∧∀σ' H',(∃v5 v6 v7 v8 v9,σ'=[some (.ref l),some (.ref d),some (.ref fl),some (.ref wd),some (.ref wl),v5,v6,v7,v8,v9])→Srch K H H' d fl wd wl rs foE waE (301 - n) (3 * (301 - n))→D.nx σ' H'
theorem z3c {α:Type} {l:List α} {i:Nat} {x:α} (h:l[i]?=some x):l.drop i=x :: l.drop (i+1):=by
 obtain ⟨hi,e⟩:=kf.mp h
 rw [←e]
 exact List.drop_eq_getElem_cons hi
theorem z8t {f:Addr} {cdv:Value} {A:Around} {outer:List Env} {s:Shared} {H:Hp} {E:XK} {l:Addr} {as:List Addr} {rs:List Row} (hr:Room 7 (A.deeper (envOfC "searched" (zd (top 58)) s.heap.objs.size f cdv)))
  (hS:SqL K H l (as.map V.ref)) (hR:zL H as rs) (hc:Code rs) (FN':FN P w K mg base 4 "next_states" ["code","labels","place","state"] (z0H K)):
  PS (cxOf CX0 P w K mg base N54 "searched" (zd (top 58)) f cdv A outer s H E).nox st54 (z6V K H l rs):=by
 have hu:=Zl hr
 have hu3:(A.deeper (envOfC "searched" (zd (top 58)) s.heap.objs.size f cdv)).units+3 < cLine:=by have:=hr.un;lia
 have hr4:=hr.mono (show 4≤7 by decide)
 refine PS.imp (Qn PassesOwn.never rfl (z0f (zu FN' hr4 rfl (z6 (pv 0) (z6 (pv 1) (z6 (pv 5) (z6 (zS zN (pv 2) (pv 5) (fun _ _=>rfl)) z8))))))
    (qU rfl (zp (zw (i:=7) sc58.nd rfl (Or.inl rfl)) (zp (zw (i:=8) sc58.nd rfl (Or.inl rfl)) qh)))
    (zb (zx (i:=9) sc58.nd rfl (Or.inl rfl) (zY z2u (jy hu (pv 3) (pv 5) (fun _ _=>rfl)) (zB (z6 (pv 7) z8))))
    (zf (zJ (zn jX (zS zN (pv 2) (pv 7) (fun _ _=>rfl)) zF (zt _))
     (zb (qO (pv 8) (ZX (pv 2) (pv 7) jk)) (zb (z2f hu (pv 3) (pv 7) (pv 9) rfl) (zf (zH (jr (pv 4) (z6 (pv 7) z8))))))
     (zf (zJ (zn (z5v hu3) (zS zN (pv 2) (pv 7) (fun _ _=>rfl)) (pv 8) (zt _)) zP zq)))))) ?_
 rintro D σ H3 ⟨d,fl,wd,wl,p,r,st,n,v6,v7,v8,v9,fo,wa,foE,waE,rfl,hn,hrp,hfp,hz,hrel,S,k⟩
 obtain ⟨fvs,hfl2,hF⟩:=S.fnd
 obtain ⟨x,hx,hx2⟩:=hF.get hfp
 obtain ⟨sa,rfl,hsa⟩:=hx2
 refine ⟨_,rfl,_,rfl,_,rfl,_,rfl,_,rfl,fl,_,_,_,rfl,rfl,SqL.of hfl2,zr hx,l,d,p,sa,st,rs,r,rfl,S.code hS hR hc,hrp,hsa,hz,fun nl ts H4 s4 hn4 hnl4 hN4=>?_⟩
 have hnlen:(Jp rs p r st).length≤3:=by unfold Jp;rw [kj];exact Js ..
 generalize Jp rs p r st=ns at hrel hN4 hnlen
 have hts:ts.length=ns.length:=Paired.length hN4
 have S4:=S.same' s4
 obtain ⟨kvs,hwd,hW,hkl⟩:=S4.wks
 obtain ⟨tp,np,ht1,ht2,ht3,ht4⟩:=hW p st hfp
 refine ⟨nl,rfl,⟨_,SqL.of hnl4⟩,z4h (K:=K) (a:=nl) (xs:=ts.map V.ref) (fun i σ H'=>∃v7 v8 v9 fo' wa',σ=[some (.ref l),some (.ref d),some (.ref fl),some (.ref wd),some (.ref wl),some (.int (p:Nat)),v6,v7,v8,v9]∧i≤3∧
   Jh (ns.drop i) fo' wa'=some (foE,waE)∧fo'[p]?=some (some st)∧Srch K H H' d fl wd wl rs fo' wa' (301 - n) (3 * (300 - n)+i)∧(∃kvs,H' wd=some (.dK kvs)∧valV kvs (Sum.inl (p:Int):Key)=some (.ref tp))∧H' tp=some (.tup np)∧
   H' nl=some (.lst (ts.map V.ref))∧NxIn K H' ts ns)
  ⟨v7,v8,v9,fo,wa,rfl,by decide,hrel,hfp,S4.more (by lia) (by lia),⟨kvs,hwd,ht1⟩,ht2,hnl4,hN4⟩ (fun i σ H' _ ⟨_,_,_,_,_,_,_,_,_,_,_,_,h,_⟩=>SqL.of h) ?_ ?_⟩
 ·rintro i x σ H' hi ⟨v7,v8,v9,fo',wa',rfl,hi3,hrel',hfp',S',⟨kvs',hwd',hv'⟩,htp',hnl',hN'⟩
  obtain ⟨t,nx,a,rfl,hnx,ht,hst⟩:=hN'.get hi
  have hil:i < ts.length:=by have:=(kf.mp hi).1;simpa using this
  rw [z3c hnx] at hrel'
  obtain ⟨goal,st'⟩:=nx
  refine ⟨t,_,rfl,SqT.of ht,rfl,_,_,rfl,_,_,rfl,rfl,?_⟩
  have hgd:DGet H' wd (.int (p:Nat)) (some (.ref tp)):=by rw [←hv'];exact DGet.k (k:=Sum.inl (p:Int)) hwd'
  refine ⟨_,rfl,_,rfl,wd,_,rfl,hgd,_,rfl,by show 1≤sizeLine;decide,fun p2 hp2=>?_⟩
  have t2:=zg hp2 (.tup [goal])
  refine ⟨tp,p2,np,[goal],rfl,rfl,SqT.of (t2 _ _ htp'),SqT.of z7,ht3,by rw [sizeLine_eq];show np.length+1≤_;lia,nofun,fun _ p3 hp3=>?_⟩
  have t3:=zg hp3 (.tup (np++[goal]))
  have t23:=t2.trans t3
  have S2:=S'.same' t23
  have hwd2:=t23 _ _ hwd'
  have hnl2:=t23 _ _ hnl'
  have hN2:=hN'.keep (qd.of t23)
  have hst2:=hst.same t23
  have htp2:=t23 _ _ htp'
  have hp33:(upd (upd H' p2 (.tup [goal])) p3 (.tup (np++[goal]))) p3=some (.tup (np++[goal])):=z7
  generalize upd (upd H' p2 (.tup [goal])) p3 (.tup (np++[goal]))=H5 at *
  obtain ⟨fv,hfl5,hF5⟩:=S2.fnd
  unfold Jh at hrel'
  cases goal with
  | int j=>
   dsimp only at hrel'
   by_cases hj0:0≤j
   case neg=>rw [kz hj0] at hrel';cases hrel'
   rw [kA hj0] at hrel'
   obtain ⟨jn,rfl⟩:=kY hj0
   rw [kZ] at hrel'
   cases hfj:fo'[jn]? with
   | none=>rw [hfj] at hrel';cases hrel'
   | some o=>
    obtain ⟨y,hy,hy2⟩:=hF5.get hfj
    rw [hfj] at hrel'
    refine ⟨_,rfl,_,rfl,fl,_,_,_,rfl,rfl,SqL.of hfl5,zr hy,rfl,_,rfl,?_⟩
    cases o with
    | none=>
     dsimp only at hrel' hy2
     subst hy2
     have npj:p≠jn:=fun z=>by rw [z,hfj] at hfp';cases hfp'
     have jlt:jn < fv.length:=(kf.mp hy).1
     have Sp:=S2.put (t:=p3) hfl5 hwd2 hst2 hp33 (by simp) (by rw [kl];show np.length+1≤_;lia) hfj
     have nwf:wd≠fl:=zD hwd2 hfl5 nofun
     have nlf:nl≠fl:=fun z=>by rw [z] at hn4;rw [S.fnd.choose_spec.1] at hn4;cases hn4
     have nlw:nl≠wl:=fun z=>by rw [z] at hn4;rw [S.wts] at hn4;cases hn4
     refine iteT ⟨_,rfl,_,rfl,_,rfl,fl,fv,_,jn,rfl,rfl,hfl5,?_,?_⟩
     ·unfold ixN
      rw [kA hj0,kA (by lia),kZ]
     refine ⟨_,rfl,_,rfl,_,rfl,wd,_,rfl,DPut.k (k:=Sum.inl (jn:Int)) (by rw [ze nwf];exact hwd2) ?_,?_⟩
     ·obtain ⟨kk,e1,_,e3⟩:=S2.wks
      rw [hwd2] at e1
      cases e1
      rw [sizeLine_eq];lia
     have hwl5:(upd (upd H5 fl (.lst (fv.set jn (.ref a)))) wd (.dK (putK kvs' (Sum.inl (jn:Int)) (.ref p3)))) wl=some (.lst (wa'.map fun p=>V.int (p:Nat))):=by
      rw [ze (zD S2.wts hwd2 nofun),ze S2.nfw.symm];exact S2.wts
     refine ⟨_,rfl,.inl ⟨rfl,_,SqL.of hwl5⟩,_,rfl,wl,_,_,rfl,rfl,hwl5,?_,?_⟩
     ·rw [kj]
      have:=S2.wlen
      rw [sizeLine_eq];lia
     have kt:qd H5 (upd (upd (upd H5 fl (.lst (fv.set jn (.ref a)))) wd (.dK (putK kvs' (Sum.inl (jn:Int)) (.ref p3)))) wl (.lst ((wa'.map fun p=>V.int (p:Nat))++[V.int (jn:Nat)]))):=
      ((qd.upd hfl5 rfl).trans (qd.upd (u:=.dK kvs') (by rw [ze nwf];exact hwd2) rfl)).trans (qd.upd hwl5 rfl)
     refine ⟨_,_,_,_,_,rfl,by lia,hrel',by rw [List.getElem?_set,kz npj.symm];exact hfp',Sp.more (ke _) (by lia),⟨_,by rw [ze (zD hwd2 S2.wts nofun)];exact z7,?_⟩,kt _ _ htp2 rfl,?_,hN2.keep kt⟩
     ·rw [QC,kz (fun z=>npj (by injection z with z;lia))];exact hv'
     ·rw [ze nlw,ze (zD hnl2 hwd2 nofun),ze nlf];exact hnl2
    | some s'=>
     dsimp only at hrel' hy2
     obtain ⟨a',rfl,hst'⟩:=hy2
     by_cases hs:s'=st'
     case neg=>rw [kz hs] at hrel';cases hrel'
     rw [kA hs] at hrel'
     subst hs
     refine iteF ⟨_,rfl,_,rfl,fl,_,_,_,rfl,rfl,SqL.of hfl5,zr hy,_,rfl,a',a,s',rfl,rfl,hst',hst2,false,rfl,iteF ?_⟩
     exact ⟨_,_,_,_,_,rfl,by lia,hrel',hfp',S2.more (ke _) (by lia),⟨kvs',hwd2,hv'⟩,htp2,hnl2,hN2⟩
  | _=>cases hrel'
 ·rintro σ H' ⟨v7,v8,v9,fo',wa',rfl,hi3,hrel',hfp',S',_⟩
  have hdr:ns.drop (ts.map V.ref).length=[]:=by rw [kj,hts];simp
  rw [hdr] at hrel'
  unfold Jh at hrel'
  cases hrel'
  exact k _ H' ⟨_,_,_,_,_,rfl⟩ (S'.more (ke _) (by rw [kj] at *;lia))
end
section
noncomputable def z6L:Stmt:=(zE (top 58)).getD 5 (.Pass ⟨0,0,0,0⟩)
def z87 (K:ky) (H:Hp) (l:Addr) (rs:List Row) (fin:Fnd):TS:=fun D σ H3=>∃(d fl wd wl:Addr) (f0:Fnd),σ=[some (.ref l),some (.ref d),some (.ref fl),some (.ref wd),some (.ref wl),none,none,none,none,none]∧bfs rs 300 f0 [0]=some fin∧
 Srch K H H3 d fl wd wl rs f0 [0] (301 - 300) (3 * (301 - 300))∧∀v1 v3 v4 v5 v6 v7 v8 v9 fvs H',Same H H'→H fl=none→H' fl=some (.lst fvs)→qk K H' fvs fin→D.nx [some (.ref l),v1,some (.ref fl),v3,v4,v5,v6,v7,v8,v9] H'
theorem z55 {f:Addr} {cdv:Value} {A:Around} {outer:List Env} {s:Shared} {H:Hp} {E:XK} {l:Addr} {as:List Addr} {rs:List Row} {fin:Fnd} (hr:Room 7 (A.deeper (envOfC "searched" (zd (top 58)) s.heap.objs.size f cdv)))
  (hS:SqL K H l (as.map V.ref)) (hR:zL H as rs) (hc:Code rs) (FS:FN P w K mg base 5 "state_words" ["code","labels","place","state"] (spSw K)) (FN':FN P w K mg base 4 "next_states" ["code","labels","place","state"] (z0H K)):
  PS (cxOf CX0 P w K mg base N54 "searched" (zd (top 58)) f cdv A outer s H E).nox z6L (z87 K H l rs fin):=by
 have hr5:=hr.mono (show 5≤7 by decide)
 refine PS.imp (ZJ PassesOwn.never (jH (pv 4) (fun _=>rfl))
   (zb (zx (i:=5) sc58.nd rfl (Or.inl rfl) (z1h PySem.F.plainAttrs_list PySem.F.slot_list_pop PySem.F.type_list_pop z0T (pv 4) (z6 zh z8)))
   (zb (zx (i:=6) sc58.nd rfl (Or.inl rfl) (zu FS hr5 rfl (z6 (pv 0) (z6 (pv 1) (z6 (pv 5) (z6 (zS zN (pv 2) (pv 5) (fun _ _=>rfl)) z8))))))
   (zb (zJ (jH (pv 6) (fun _=>rfl)) zP zq)
   (zf (z8t hr hS hR hc FN')))))) ?_
 rintro D σ H3 ⟨d,fl,wd,wl,f0,rfl,hfin,qT,q⟩
 refine ⟨fun m σ H2=>∃fo wa v5 v6 v7 v8 v9,σ=[some (.ref l),some (.ref d),some (.ref fl),some (.ref wd),some (.ref wl),v5,v6,v7,v8,v9]∧m≤300∧bfs rs m fo wa=some fin∧Srch K H H2 d fl wd wl rs fo wa (301 - m) (3 * (301 - m)),⟨300,f0,[0],none,none,none,none,none,rfl,ke _,hfin,qT⟩,?_⟩
 clear qT
 rintro m σ H2 ⟨fo,wa,v5,v6,v7,v8,v9,rfl,hm,hb,S⟩
 refine ⟨_,rfl,!wa.isEmpty,.inl ⟨_,SqL.of S.wts,by rw [List.isEmpty_map]⟩,?_⟩
 cases wa with
 | nil=>
  have hb:some fo=some fin:=by unfold bfs at hb;exact hb
  cases hb
  obtain ⟨fvs,hfl2,hF⟩:=S.fnd
  exact iteF (q _ _ _ _ _ _ _ _ fvs H2 S.same S.nf hfl2 hF)
 | cons p wa=>
  cases m with
  | zero=>unfold bfs at hb;cases hb
  | succ n=>
   unfold bfs at hb
   cases hrp:rs[p]? with
   | none=>rw [hrp] at hb;cases hb
   | some r=>
    cases hfp:fo[p]? with
    | none=>rw [hrp,hfp] at hb;cases hb
    | some o=>
     cases o with
     | none=>rw [hrp,hfp] at hb;cases hb
     | some st=>
      rw [hrp,hfp] at hb
      dsimp only at hb
      by_cases hw:(Zt rs p r st.1 st.2.getLast?).isEmpty=true∧st.2.length≤1000
      case neg=>rw [kz hw] at hb;cases hb
      rw [kA hw] at hb
      obtain ⟨hw,hz⟩:=hw
      cases hrel:Jh (Jp rs p r st) fo wa with
      | none=>rw [hrel] at hb;cases hb
      | some fw=>
       obtain ⟨foE,waE⟩:=fw
       rw [hrel] at hb
       dsimp only at hb
       refine iteT ⟨fun σ' H'=>∃v5 v6 v7 v8 v9,σ'=[some (.ref l),some (.ref d),some (.ref fl),some (.ref wd),some (.ref wl),v5,v6,v7,v8,v9]∧Srch K H H' d fl wd wl rs foE waE (301 - n) (3 * (301 - n)),fun σ' H' ⟨v5,v6,v7,v8,v9,e,S'⟩=>⟨n,ya _,foE,waE,v5,v6,v7,v8,v9,e,by lia,hb,S'⟩,?_⟩
       obtain ⟨k1,k2,k3⟩:=pop0 (xs:=(p :: wa).map fun p=>V.int (p:Nat)) rfl
       refine ⟨_,rfl,.inl ⟨rfl,_,SqL.of S.wts⟩,wl,_,0,0,_,rfl,rfl,S.wts,by decide,by decide,k1,k2,?_⟩
       rw [k3]
       have S1:=S.pop
       generalize upd H2 wl (.lst (wa.map fun p=>V.int (p:Nat)))=H3 at S1
       obtain ⟨fvs,hfl2,hF⟩:=S1.fnd
       obtain ⟨x,hx,hx2⟩:=hF.get hfp
       obtain ⟨sa,rfl,hsa⟩:=hx2
       refine ⟨_,rfl,_,rfl,_,rfl,_,rfl,_,rfl,fl,_,_,_,rfl,rfl,SqL.of hfl2,zr hx,l,d,p,sa,st,rs,r,rfl,S1.code hS hR hc,hrp,hsa,fun wf H4 s4 hn4 hwf=>?_⟩
       refine ⟨_,rfl,false,.inl ⟨_,SqL.of hwf,by rw [List.isEmpty_map,hw];rfl⟩,iteF ?_⟩
       exact ⟨d,fl,wd,wl,p,r,st,n,_,_,_,_,fo,wa,foE,waE,rfl,by lia,hrp,hfp,hz,hrel,(S1.same' s4).more (by lia) (by lia),fun σ' H' ⟨v5,v6,v7,v8,v9,e⟩ S'=>⟨v5,v6,v7,v8,v9,e,S'⟩⟩
theorem z0p (D:zm K mg "searched" (top 58)) (G:Glo mg) (T:z3r w K mg) (FL:FN P w K mg base 7 "label_places" ["rows"] (Jb K)) (FS:FN P w K mg base 5 "state_words" ["code","labels","place","state"] (spSw K)) (FN':FN P w K mg base 4 "next_states" ["code","labels","place","state"] (z0H K)):
  FN P w K mg base 8 "searched" ["code"] (Ql K):=by
 refine FN.o D sc58 fun f cdv A outer s H vs Q E hr h=>?_
 obtain ⟨l,as,rs,fin,rfl,hS,hR,hc,hfin,q⟩:=h
 have hu:=Zl hr
 have hu3:(A.deeper (envOfC "searched" (zd (top 58)) s.heap.objs.size f cdv)).units+3 < cLine:=by have:=hr.un;lia
 obtain ⟨fa,fg,mfa,tfa,tfg⟩:=T.first
 have hr5:=hr.mono (show 5≤7 by decide)
 have hr4:=hr.mono (show 4≤7 by decide)
 refine ⟨_,zb (zx (i:=1) sc58.nd rfl (Or.inl rfl) (zu FL hr rfl (z6 (pv 0) z8)))
  (zb (zx (i:=2) sc58.nd rfl (Or.inl rfl) (zY z4Y (qe (z6 zF z8)) (zl qb rfl G.len zR (z6 (pv 0) z8))))
  (zb (qO (zA rfl mfa (v:=.ref fa) rfl) (ZX (pv 2) zh jk))
  (zb (zx (i:=3) sc58.nd rfl (Or.inl rfl) (ZY (qB zh (zB (z6 zh z8)) Zd) rfl rfl nofun (by decide)))
  (zb (zx (i:=4) sc58.nd rfl (Or.inl rfl) (qe (z6 zh z8)))
  (zb (z55 (fin:=fin) hr hS hR hc FS FN')
  (zf (zk (zB (z6 (pv 2) (z6 zF z8)))))))))),?_⟩
 have hlen:=hc.hi
 have hlo:=hc.lo
 refine ⟨_,rfl,l,as,rs,rfl,hS,hR,hc.ok,by lia,fun d kvs0 H1 hd0 s1 hd1 hL=>?_⟩
 have hll:as.length=rs.length:=hR.len
 refine ⟨by show 1≤sizeLine;decide,fun p0 hp0=>?_⟩
 have t0:=zg hp0 (.lst [V.non])
 refine ⟨_,rfl,l,_,rfl,.inl (t0.seq (s1.seq hS)),p0,_,[V.non],rfl,rfl,z7,?_,?_,?_,fun fl hfl=>?_⟩
 ·rw [kj];lia
 ·rw [kj];lia
 ·rw [kj]
  show 1 * ((as.length:Nat):Int).toNat≤sizeLine
  rw [sizeLine_eq,kZ];lia
 have efl:(List.replicate (((as.map V.ref).length:Nat):Int).toNat [V.non]).flatten=List.replicate rs.length V.non:=by
  rw [kZ,kj,hll]
  generalize rs.length=n
  induction n with
  | zero=>rfl
  | succ n ih=>rw [List.replicate_succ,List.flatten_cons,ih];rfl
 rw [efl]
 have sA:Same H (upd H1 p0 (.lst [V.non])):=s1.trans t0
 have hfl0:H fl=none:=sA.free hfl
 have nfd:d≠fl:=zc (t0 _ _ hd1) hfl
 refine ⟨_,rfl,fl,_,0,0,rfl,rfl,z7,?_,?_⟩
 ·unfold ixN
  rw [kA (by decide),kA (by rw [List.length_replicate];lia)]
  rfl
 rw [ZP]
 have f0:qk K (upd (upd H1 p0 (.lst [V.non])) fl (.lst ((List.replicate rs.length V.non).set 0 (.ref fa)))) ((List.replicate rs.length V.non).set 0 (.ref fa)) ((List.replicate rs.length none).set 0 (some (0,[]))):=
  qk.set (st:=(0,[])) ⟨fg,tfa.sq _,[],tfg.sq _,.nil⟩ 0 (Zm _ _ _)
 generalize hfv:(List.replicate rs.length V.non).set 0 (V.ref fa)=fvs0 at f0
 intro wd hwd
 have sB:Same H (upd (upd H1 p0 (.lst [V.non])) fl (.lst fvs0)):=fun b o e=>by rw [ze (zc e hfl0)];exact sA _ _ e
 generalize hHB:upd (upd H1 p0 (.lst [V.non])) fl (.lst fvs0)=HB at *
 have hflB:HB fl=some (.lst fvs0):=by rw [←hHB];exact z7
 have hdB:HB d=some (.dK kvs0):=by rw [←hHB,ze nfd];exact t0 _ _ hd1
 have hwd0:H wd=none:=sB.free hwd
 have s3:=zg hwd (.dK [])
 refine ⟨by show 1≤sizeLine;decide,fun p1 hp1=>?_⟩
 have s4:=zg hp1 (.tup [V.int 0])
 refine ⟨s4 _ _ z7,[(Sum.inl 0,.ref p1)],rfl,(by show 1≤15;decide),?_⟩
 have em:qz [] [((Sum.inl 0:Key),V.ref p1)]=[(Sum.inl 0,V.ref p1)]:=rfl
 rw [em]
 refine ⟨by show 1≤sizeLine;decide,fun wl hwl=>?_⟩
 have npw:p1≠wd:=(zc (H:=upd HB wd (.dK [])) z7 hp1).symm
 have hwl':wl≠wd:=fun z=>by rw [z,z7] at hwl;cases hwl
 have hwl2:(upd (upd HB wd (.dK [])) p1 (.tup [V.int 0])) wl=none:=by rw [ze hwl'] at hwl;exact hwl
 have sC:Same HB (upd (upd HB wd (.dK [])) p1 (.tup [V.int 0])):=s3.trans s4
 have hwlB:HB wl=none:=sC.free hwl2
 have sD:Same HB (upd (upd (upd (upd HB wd (.dK [])) p1 (.tup [V.int 0])) wd (.dK [(Sum.inl 0,V.ref p1)])) wl (.lst [V.int 0])):=fun b o e=>by
  rw [ze (zc e hwlB),ze (zc e hwd)];exact sC _ _ e
 generalize hHD:upd (upd (upd (upd HB wd (.dK [])) p1 (.tup [V.int 0])) wd (.dK [(Sum.inl 0,V.ref p1)])) wl (.lst [V.int 0])=HD at *
 have hp1D:HD p1=some (.tup [V.int 0]):=by
  rw [←hHD,ze (fun z=>by rw [←z,z7] at hwl2;cases hwl2),ze npw];exact z7
 have hwdD:HD wd=some (.dK [(Sum.inl 0,V.ref p1)]):=by rw [←hHD,ze hwl'.symm];exact z7
 have hwlD:HD wl=some (.lst [V.int 0]):=by rw [←hHD];exact z7
 have qT:Srch K H HD d fl wd wl rs ((List.replicate rs.length none).set 0 (some (0,[]))) [0] (301 - 300) (3 * (301 - 300)):=by
  refine ⟨sB.trans sD,⟨kvs0,sD _ _ hdB,hL⟩,hfl0,hwd0,sB.free hwlB,⟨fvs0,sD _ _ hflB,f0.keep (qd.of sD)⟩,⟨_,hwdD,fun p st e=>?_,(by show 1≤3;decide)⟩,hwlD,(by show 1≤3;decide),by simp,zc hdB hwd,zc hflB hwlB⟩
  have hp:p=0:=by
   rw [List.getElem?_set] at e
   by_cases z:0=p
   ·exact z.symm
   ·rw [kz z,List.getElem?_replicate] at e
    split at e <;> cases e
  subst hp
  exact ⟨p1,_,rfl,hp1D,nofun,(by show 1≤1;decide)⟩
 refine ⟨d,fl,wd,wl,_,rfl,hfin,qT,fun v1 v3 v4 v5 v6 v7 v8 v9 fvs H' s' _ h1 h2=>?_⟩
 refine ⟨_,rfl,by show 2≤sizeLine;decide,fun t ht=>?_⟩
 have st:=zg ht (.tup [V.ref fl,.non])
 exact q t fl fvs _ (s'.trans st) (s'.free ht) hfl0 z7 (st _ _ h1) (h2.keep (qd.of st))
end
section
def QD (K:ky):Sp:=fun vs H Q _=>∃l as rs fin,vs=[.ref l]∧H l=some (.lst (as.map V.ref))∧zL H as rs∧Code rs∧jw rs=some fin∧
 ∀fl fvs H',Same H H'→H fl=none→H' fl=some (.lst fvs)→qk K H' fvs fin→Q (.ref fl) H'
theorem sc59:zj ["code","found","reason"] ["code"] (zd (top 59)):=fsM
theorem z31 (D:zm K mg "states" (top 59)) (FC:FN P w K mg base 9 "check_code" ["thing"] z0a) (FS:FN P w K mg base 8 "searched" ["code"] (Ql K)):FN P w K mg base 10 "states" ["code"] (QD K):=by
 refine FN.o D sc59 fun f cdv A outer s H vs Q E hr h=>?_
 obtain ⟨l,as,rs,fin,rfl,hl,hR,hc,hfin,q⟩:=h
 refine ⟨_,zb (zH (zu FC hr rfl (z6 (pv 0) z8)))
  (zb (qO (zu FS (hr.mono (by decide)) rfl (z6 (pv 0) z8)) (qU rfl (zp (zw (i:=1) sc59.nd rfl (Or.inl rfl)) (zp (zw (i:=2) sc59.nd rfl (Or.inl rfl)) qh))))
  (zb (zJ (zn Zg (pv 2) zF (zt _)) zP zq) (zf (zk (pv 1))))),?_⟩
 refine ⟨_,rfl,l,as,rs,rfl,hl,hR,hc,fun H1 s1=>?_⟩
 refine ⟨_,rfl,l,as,rs,fin,rfl,SqL.of (s1 _ _ hl),hR.same s1,hc,hfin,fun t fl fvs H2 s2 ht hfl h1 h2 h3=>?_⟩
 refine ⟨t,_,rfl,SqT.of h1,rfl,_,_,rfl,_,_,rfl,rfl,?_⟩
 exact ⟨_,rfl,rfl,_,rfl,iteF ⟨_,rfl,q fl fvs H2 (s1.trans s2) (s1.free hfl) h2 h3⟩⟩
noncomputable def z0C:V→Bool
 | .non=>false
 | .bl b=>b
 | .int i=>i != 0
 | .str z=>(z.length:Int) != 0
 | _=>true
def z0G:Sp:=fun vs H Q _=>∃x,vs=[x]∧Scal x∧Q (.bl (z0C x)) H
theorem sc62:zj ["value"] ["value"] (zd (top 62)):=fsM
theorem z5K (D:zm K mg "is_true" (top 62)) (G:Glo mg):FN P w K mg base 1 "is_true" ["value"] z0G:=by
 refine FN.o D sc62 fun f cdv A outer s H vs Q E hr h=>?_
 obtain ⟨x,rfl,hx,q⟩:=h
 refine ⟨_,zf (zk (jg J2 rfl G.bool qL (z6 (pv 0) z8))),?_⟩
 refine ⟨x,rfl,x,rfl,?_⟩
 cases hx with
 | non=>exact .inl ⟨rfl,q⟩
 | bl b=>exact .inr (.inl ⟨b,rfl,q⟩)
 | int i=>exact .inr (.inr (.inl ⟨i,rfl,q⟩))
 | str z hz=>exact .inr (.inr (.inr ⟨z,rfl,hz,q⟩))
theorem qY:bootBuiltins "dict"=some (.type "dict"):=by trivial
theorem J4:bootBuiltins "all"=some (.builtin "all"):=by trivial
def Zq (kvs:List (Key × V)):Prop:=kvs.length≤8∧∀p∈kvs,∃nm:Str,p.1=Sum.inr nm∧nm.length≤sizeLine∧jh (.str nm)=true∧Scal p.2∧j6 p.2 1000000000000000000=true
def z20:Sp:=fun vs H Q _=>∃d kvs,vs=[.ref d]∧H d=some (.dK kvs)∧Zq kvs∧∀H',Same H H'→Q (.bl true) H'
theorem sc80:zj ["thing"] ["thing"] (zd (top 80)):=fsM
theorem ndnv:(["name","value"]:List Str).Nodup:=by trivial
theorem z4n (D:zm K mg "is_names" (top 80)) (G:Glo mg) (F1:FN P w K mg base 2 "is_name" ["thing"] (sp1 jh)) (F2:FN P w K mg base 3 "is_value_within" ["thing","most"] ZR):FN P w K mg base 4 "is_names" ["thing"] z20:=by
 refine FN.o D sc80 fun f cdv A outer s H vs Q E hr h=>?_
 obtain ⟨d,kvs,rfl,hd,⟨hn,hall⟩,q⟩:=h
 obtain ⟨u1,m1,r1⟩:=G.made
 refine ⟨_,zb (zJ (PW.pt (jx (qw (zX (zl zy rfl G.isinstance zi (z6 (pv 0) (z6 (qQ "dict" rfl G.dict qY) z8)))))
   (j9 (zn z0i (zl Q7 rfl G.len zR (z6 (pv 0) z8)) (qt rfl G.names) (zt _))))) zP zq)
  (zf (zk (zl (jp rfl) rfl G.all J4 (z6 (QL (N:=["name","value"]) (nt:=2) (ix:=[]) (cl:=[]) rfl (qA.plain (by trivial) (by trivial) rfl (by trivial) rfl) (pv 0)
   (fun _ _ _ _=>Zf (K:=K) (n:=2) rfl rfl (zp (zw (i:=0) ndnv rfl (Or.inl rfl)) (zp (zw (i:=1) ndnv rfl (Or.inl rfl)) qh)))
   (fun _ _ _ _=>Zc)
   (fun _ _ _ _=>qj (zu F1 (hr.mono (by decide)) rfl (z6 (pv 0) z8)) (qm (zu F2 hr rfl (z6 (pv 1) (z6 (zA rfl m1 r1) z8)))))) z8)))),?_⟩
 refine ⟨_,rfl,_,"dict",_,true,rfl,.dK hd,rfl,_,rfl,iteF ?_⟩
 refine ⟨_,rfl,d,kvs,rfl,hd,_,_,rfl,rfl,_,rfl,?_⟩
 rw [kh (show ¬((8:Int) < (kvs.length:Int)) by lia)]
 refine iteF ⟨_,rfl,d,kvs,rfl,hd,fun o l hl=>?_⟩
 refine Zp (Q:=fun x H1=>∃(p:Addr) (bs:List Bool),[x]=[V.ref p]∧SqL K H1 p (bs.map V.bl)∧Q (V.bl (bs.all id)) H1) (fun i ys σ H2=>(∃a b,σ=[a,b])∧ys=List.replicate i (V.bl true)∧H2 l=some (.lst ys)∧H2 d=some (.frz o (.dK kvs))∧∀b o,H b=some o→b≠d→H2 b=some o) ⟨⟨none,none,rfl⟩,rfl,z7,?_,?_⟩ (fun i ys σ H2 h=>h.2.2.2.1) ?_ ?_
 ·rw [ze (zc hd hl)];exact z7
 ·intro b o e hb
  rw [ze (zc e hl),ze hb];exact e
 ·rintro i p k v ys σ H2 hi ⟨⟨a,b,rfl⟩,rfl,hl2,hd2,kp⟩ hp
  obtain ⟨nm,ek,hz,h1,h2,h3⟩:=hall (k,v) (kG hi)
  have ek:k=Sum.inr nm:=ek
  subst ek
  have hil:=(kf.mp hi).1
  have npl:l≠p:=zc hl2 hp
  have npd:d≠p:=zc hd2 hp
  refine ⟨p,_,rfl,SqT.of z7,rfl,_,_,rfl,_,_,rfl,rfl,?_⟩
  refine Z8 ⟨_,rfl,_,rfl,.str nm hz,_,rfl,?_⟩
  rw [show jh (kV (Sum.inr nm))=true from h1]
  refine iteT ⟨_,rfl,_,_,rfl,h2,?_⟩
  rw [h3]
  refine ⟨by rw [ze npl];exact hl2,by rw [List.length_replicate];exact zV (by lia),_,by lia,rfl,by lia,⟨_,_,rfl⟩,by rw [List.replicate_succ'],z7,?_,fun b o e hb=>?_⟩
  ·rw [ze (zc hd hl),ze npd];exact hd2
  ·rw [ze (zc e hl),ze (zc (kp _ _ e hb) hp)];exact kp _ _ e hb
 ·rintro ys σ H2 ⟨_,rfl,hl2,hd2,kp⟩
  have nld:l≠d:=(zc hd hl).symm
  refine ⟨l,List.replicate kvs.length true,rfl,SqL.of ?_,?_⟩
  ·rw [ze nld,hl2,List.map_replicate]
  ·have e:(List.replicate kvs.length true).all id=true:=by
    rw [List.all_eq_true]
    intro b hb
    rw [List.eq_of_mem_replicate hb]
    rfl
   rw [e]
   refine q _ fun b o e=>?_
   by_cases z:b=d
   ·subst z
    rw [hd] at e
    cases e
    exact z7
   ·rw [ze z];exact kp _ _ e z
def z4T:Sp:=fun vs H Q _=>∃d kvs,vs=[.ref d]∧H d=some (.dK kvs)∧Zq kvs∧∀H',Same H H'→Q .non H'
theorem sc81:zj ["thing"] ["thing"] (zd (top 81)):=fsM
theorem z6f (D:zm K mg "check_names" (top 81)) (F1:FN P w K mg base 4 "is_names" ["thing"] z20):FN P w K mg base 5 "check_names" ["thing"] z4T:=by
 refine FN.o D sc81 fun f cdv A outer s H vs Q E hr h=>?_
 obtain ⟨d,kvs,rfl,hd,hn,q⟩:=h
 refine ⟨_,zf (zJ (qw (zX (zu F1 hr rfl (z6 (pv 0) z8)))) zP zq),?_⟩
 exact ⟨_,rfl,d,kvs,rfl,hd,hn,fun H' s'=>⟨_,rfl,iteF (q H' s')⟩⟩
def z4S:Sp:=fun vs H Q _=>∃n:Nat,vs=[.int n]∧n≤100000∧Q .non H
theorem sc82:zj ["thing"] ["thing"] (zd (top 82)):=fsM
theorem z6e (D:zm K mg "check_steps" (top 82)) (G:Glo mg) (F1:FN P w K mg base 2 "is_number_within" ["thing","low","high"] j7):FN P w K mg base 3 "check_steps" ["thing"] z4S:=by
 refine FN.o D sc82 fun f cdv A outer s H vs Q E hr h=>?_
 obtain ⟨n,rfl,hn,q⟩:=h
 refine ⟨_,zf (zJ (qw (zX (zu F1 hr rfl (z6 (pv 0) (z6 zh (z6 (qt rfl G.steps) z8)))))) zP zq),?_⟩
 have e:qg (.int (n:Nat)) 0 100000=true:=by
  show (decide ((0:Int)≤(n:Nat))&&decide (((n:Nat):Int)≤100000))=true
  rw [ki (by lia),ki (by lia)]
  rfl
 refine ⟨_,rfl,.int (n:Nat),0,100000,rfl,.int _,?_⟩
 rw [e]
 exact ⟨_,rfl,iteF q⟩
end
end My
namespace L2
open PySem PySem.Spec PyProof.Rows
section
variable {X:Cx}
theorem PSs.imp {st:List Stmt} {t t':TS} (h:PSs X st t) (hi:∀D σ H,t' D σ H→t D σ H):PSs X st t':=fun pins s σ H D I q=>h pins s σ H D I (hi D σ H q)
end
end L2
namespace L2
open PySem PySem.Spec PyProof.Rows
section
variable {X:Cx} {pins:List (Addr × Obj)} {σ:St} {H:Hp} {s:Shared}
end
end L2
namespace L2
open PySem PySem.Spec PyProof.Rows
section
variable {X:Cx}
theorem cmpW {pins:List (Addr × Obj)} {σ:St} {H:Hp} {s:Shared} (I:Inv X pins σ H s) {p q:Addr} {z w:Str} {rest:List V} (h1:SqT X.K H p (.str z :: rest)) (h2:SqT X.K H q [.str w]):
  ∃i1 i2:Array Value,s.heap.IsTuple p i1∧s.heap.IsTuple q i2∧(∀(A:Around) (j:Nat) (g1:j < i1.size) (g2:j < i2.size),SeqAt.EqAt A s i1[j] i2[j] (z == w))∧((List.range (min i1.size i2.size)).all (fun _=>z == w)&&i1.size == i2.size)=(decide (z=w)&&rest.isEmpty):=by
 obtain ⟨its,r,pl,_⟩:=I.tuple h1
 obtain ⟨its2,r2,pl2,_⟩:=I.tuple h2
 cases r with
 | cons a b=>
  obtain ⟨t,rfl⟩:=a
  cases r2 with
  | cons a2 b2=>
   obtain ⟨t2,rfl⟩:=a2
   cases b2
   refine ⟨_,_,pl,pl2,fun A j g1 g2=>?_,?_⟩
   ·have e:j=0:=by simp at g2;exact g2
    subst e
    exact SeqAt.EqAt.str_str (A:=A) (s:=s) z t w t2
   ·have hl:=b.length
    have e1:(z == w)=decide (z=w):=by
     rw [Bool.eq_iff_iff]
     simp
    cases b with
    | nil=>simp [e1]
    | cons c d=>simp [e1]
end
end L2
namespace L2
open PySem PySem.Spec PyProof.Rows
section
variable {X:Cx}
end
end L2
namespace L2
open PySem PySem.Spec PyProof.Rows
section
variable {X:Cx}
end
end L2
namespace L2
open PySem PySem.Spec PyProof.Rows
section
variable {X:Cx}
end
end L2
namespace L2
open PySem PySem.Spec PyProof.Rows
section
variable {X:Cx}
end
end L2
namespace L2
open PySem PySem.Spec PyProof.Rows
section
variable {X:Cx}
end
end L2
namespace L2
open PySem PySem.Spec PyProof.Rows
def Zs (n:Heap) (H:Hp) (x:Addr) (cls:Value) (h:Heap):Prop:=
 ∃oe vs,h.get? x=some oe∧oe.cls=cls∧oe.data=.fields vs∧1 < vs.size∧n.get? x=none∧H x=none∧
  (vs[1]?=some .none∨∃T oT ts,vs[1]?=some (.ref T)∧T≠x∧n.get? T=none∧H T=none∧h.get? T=some oT∧oT.data=.fields ts∧ts[3]?=some .none)
structure z1H (n:Heap) (H:Hp) (fs:List Addr) (h h':Heap):Prop where
 same:∀b o,h.get? b=some o→b∉fs→(n.get? b≠none∨H b≠none)→h'.get? b=some o
 slot:∀b o,h.get? b=some o→b∈fs→∃sl,h'.get? b=some { o with slots:=sl }
 there:∀b o,h.get? b=some o→∃o',h'.get? b=some o'
section
variable {M:Model} {A:Around} {E:Value→Shared→Prop} {s:Shared}
theorem Jq {base:Heap} {env:Env} {outer:List Env} {L e:Addr} {n:Heap} {H:Hp} {oe:Obj} {vs:Array Value} {head:Value} {hadNext:Bool} {Q:Unit→Shared→Prop}
  (hfr:A.frames=some (env :: outer)) (hl:s.heap.FunFrames base (env :: outer)) (hf:env.frame=some L)
  (he:s.heap.get? e=some oe) (hd:oe.data=.fields vs) (hsz:1 < vs.size) (hen:n.get? e=none) (heH:H e=none) (hns:∀b,s.heap.get? b=none→n.get? b=none) (hH:∀a,s.heap.get? a=none→H a=none)
  (h:∀h',z1H n H (frs (env :: outer)) s.heap h'→Zs n H e oe.cls h'→Q () { s with heap:=h' }):
  wpAny M A (do let a ←frameOf env;let pl ←entryPlaceOf L hadNext;let b ←EntryCells.newEntry head a .none (rawInt L) .none pl;setField (.ref e) 1 b) (fun _ s'=>wpAny M A (setFlight (.ref e) none) Q E s') E s:=by
 have hene:e∉(env :: outer).filterMap (·.frame):=fun hm=>by
  obtain ⟨_,o,ho,hnf⟩:=hl.mem hm
  rw [he] at ho;injection ho with ho;subst ho;exact hnf vs hd
 refine wpAny_bind (wpAny_frameOf_fun hfr hl hf fun h₁ hs₁=>?_)
 refine wpAny_bind (wpAny_entryPlaceOf fun pl hpl=>?_)
 unfold EntryCells.newEntry newFields
 refine wpAny_bind (wpAny_newObj_type ?_ (hpl.sizeOk5 _ _ _ _ _))
 have he₁:h₁.get? e=some oe:=(hs₁.2.1 e hene).trans he
 have he₂:=Heap.get?_push_of_some (h:=h₁) { cls:=.type "traceback",dict:=none,data:=.fields ([head,.ref L,.none,rawInt L,.none]++(if pl.isEmpty then List.replicate 6 Value.none else pl)).toArray } he₁
 refine wpAny_setField he₂ hd hsz ?_
 have hTe:h₁.objs.size≠e:=Nat.ne_of_gt (Heap.lt_size he₁)
 have hd₃:=Obj.data_mapFields hd (·.setIfInBounds 1 (Value.ref h₁.objs.size))
 have he₃:=Heap.get?_update_self (Obj.mapFields (·.setIfInBounds 1 (Value.ref h₁.objs.size))) he₂ (Obj.isFreed_of_fields hd₃)
 have hT₃:=(Heap.get?_update_other (h₁.push { cls:=.type "traceback",dict:=none,data:=.fields ([head,.ref L,.none,rawInt L,.none]++(if pl.isEmpty then List.replicate 6 Value.none else pl)).toArray })
  (Obj.mapFields (·.setIfInBounds 1 (Value.ref h₁.objs.size))) (Ne.symm hTe)).trans (Heap.get?_push_size h₁ rfl)
 unfold setFlight
 refine wpAny_bind (wpAny_field he₃ hd₃ (x:=.ref h₁.objs.size) (by simp [hsz]) ?_)
 rw [kA (show (Value.ref h₁.objs.size != Value.none)=true from by simp)]
 have hfresh:s.heap.get? h₁.objs.size=none:=Heap.get?_none_of_le (kX hs₁.1.symm)
 refine wpAny_setField hT₃ rfl (by simp only [kE,kl,kO,List.length_nil] <;> lia) (h _ ?_ ?_)
 ·have keep:∀b o,b≠e→h₁.get? b=some o→
    (((h₁.push { cls:=.type "traceback",dict:=none,data:=.fields ([head,.ref L,.none,rawInt L,.none]++(if pl.isEmpty then List.replicate 6 Value.none else pl)).toArray }).update e (Obj.mapFields (·.setIfInBounds 1 (Value.ref h₁.objs.size)))).update h₁.objs.size
     (Obj.mapFields (·.setIfInBounds 3 ((none:Option Addr).elim Value.none fun f=>rawInt f)))).get? b=some o:=fun b o hbe hb=>by
   have hbT:h₁.objs.size≠b:=Nat.ne_of_gt (Heap.lt_size hb)
   rw [Heap.get?_update_other _ _ hbT,Heap.get?_update_other _ _ (Ne.symm hbe)]
   exact Heap.get?_push_of_some _ hb
  refine ⟨fun b o hb hnf hor=>?_,fun b o hb hm=>?_,fun b o hb=>?_⟩
  ·have hbe:b≠e:=fun z=>by
    rcases hor with q | q
    ·rw [z] at q;exact q hen
    ·rw [z] at q;exact q heH
   exact keep b o hbe ((hs₁.2.1 b hnf).trans hb)
  ·have hbe:b≠e:=fun z=>hene (by rw [←z];exact hm)
   obtain ⟨sl,q⟩:=hs₁.2.2 b o hb
   exact ⟨sl,keep b _ hbe q⟩
  ·by_cases hbe:b=e
   ·subst hbe
    rw [Heap.get?_update_other _ _ hTe]
    exact ⟨_,he₃⟩
   ·obtain ⟨sl,q⟩:=hs₁.2.2 b o hb
    exact ⟨_,keep b _ hbe q⟩
 ·refine ⟨_,_,by rw [Heap.get?_update_other _ _ hTe];exact he₃,Obj.cls_mapFields _ _,hd₃,by simpa using hsz,hen,heH,.inr ⟨h₁.objs.size,_,_,by simp [hsz],hTe,hns _ hfresh,hH _ hfresh,Heap.get?_update_self _ hT₃ (Obj.isFreed_of_fields (Obj.data_mapFields rfl _)),Obj.data_mapFields rfl _,?_⟩⟩
  first | (simp;done) | (rcases hpl with rfl | ⟨_,_,_,_,_,_,_,rfl⟩ <;> simp)
theorem z79 {base:Heap} {env:Env} {outer:List Env} {L e:Addr} {n:Heap} {H:Hp} {cls:Value} {Q:Unit→Shared→Prop}
  (hfr:A.frames=some (env :: outer)) (hl:s.heap.FunFrames base (env :: outer)) (hf:env.frame=some L) (F:Zs n H e cls s.heap) (hns:∀b,s.heap.get? b=none→n.get? b=none) (hH:∀a,s.heap.get? a=none→H a=none)
  (h:∀h',z1H n H (frs (env :: outer)) s.heap h'→Zs n H e cls h'→Q () { s with heap:=h' }):wpAny M A (noteFrame (.ref e) env) (fun _ s'=>wpAny M A (setFlight (.ref e) none) Q E s') E s:=by
 obtain ⟨oe,vs,he,rfl,hd,hsz,hne,heH,h1 | ⟨T,oT,ts,h1,hTe,hTn,hTH,hT,hdT,h3⟩⟩:=F
 ·unfold noteFrame
  simp only [hf]
  refine wpAny_bind (wpAny_field he hd h1 ?_)
  rw [kz (by decide)]
  exact Jq hfr hl hf he hd hsz hne heH hns hH h
 ·unfold noteFrame
  simp only [hf]
  refine wpAny_bind (wpAny_field he hd h1 ?_)
  rw [kA (show (Value.ref T != Value.none)=true from by simp)]
  refine wpAny_bind (wpAny_field hT hdT h3 ?_)
  rw [kz (show ¬((Value.none == rawInt L)=true) from by simp [rawInt])]
  refine wpAny_bind (wpAny_setField hT hdT (Array.getElem?_eq_some_iff.mp h3).1 ?_)
  have other:∀b,b≠T→(s.heap.update T (Obj.mapFields (·.setIfInBounds 3 Value.none))).get? b=s.heap.get? b:=fun b hb=>Heap.get?_update_other _ _ (Ne.symm hb)
  have noRecord:∀b o,s.heap.get? b=some o→(∀vs,o.data≠.fields vs)→b≠T:=fun b o hb hnf q=>by
   rw [q,hT] at hb;injection hb with hb;subst hb;exact hnf ts hdT
  have hTf:T∉frs (env :: outer):=fun hm=>by
   obtain ⟨_,o,ho,hnf⟩:=hl.mem hm
   rw [hT] at ho;injection ho with ho;subst ho;exact hnf ts hdT
  have gone:∀b,(s.heap.update T (Obj.mapFields (·.setIfInBounds 3 Value.none))).get? b=none→s.heap.get? b=none:=fun b hb=>by
   by_cases z:b=T
   ·subst z
    rw [Heap.get?_update_self _ hT (Obj.isFreed_of_fields (Obj.data_mapFields hdT _))] at hb
    cases hb
   ·rw [other b z] at hb
    exact hb
  refine Jq (s:={ s with heap:=s.heap.update T (Obj.mapFields (·.setIfInBounds 3 Value.none)) }) hfr (hl.of_keeps fun b o hb hnf=>⟨o,(other b (noRecord b o hb hnf)).trans hb,rfl⟩) hf ((other e (Ne.symm hTe)).trans he) hd hsz hne heH
   (fun b hb=>hns b (gone b hb)) (fun b hb=>hH b (gone b hb)) fun h' k f=>h h' ⟨fun b o hb hnf hor=>?_,fun b o hb hm=>?_,fun b o hb=>?_⟩ f
  ·have hbT:b≠T:=fun z=>by
    rcases hor with q | q
    ·rw [z] at q;exact q hTn
    ·rw [z] at q;exact q hTH
   exact k.same b o ((other b hbT).trans hb) hnf hor
  ·have hbT:b≠T:=fun z=>hTf (by rw [←z];exact hm)
   exact k.slot b o ((other b hbT).trans hb) hm
  ·by_cases hbT:b=T
   ·subst hbT
    exact k.there b _ (Heap.get?_update_self _ hT (Obj.isFreed_of_fields (Obj.data_mapFields hdT _)))
   ·exact k.there b o ((other b hbT).trans hb)
theorem z7i {base:Heap} {env:Env} {outer:List Env} {L e:Addr} {n:Heap} {H:Hp} {cls:Value} {Q:Unit→Shared→Prop}
  (hfr:A.frames=some (env :: outer)) (hl:s.heap.FunFrames base (env :: outer)) (hf:env.frame=some L) (F:Zs n H e cls s.heap) (hns:∀b,s.heap.get? b=none→n.get? b=none) (hH:∀a,s.heap.get? a=none→H a=none)
  (h:∀h',z1H n H (frs (env :: outer)) s.heap h'→Zs n H e cls h'→Q () { s with heap:=h' }):wpAny M A (leaving env (.ref e)) Q E s:=by
 unfold leaving
 exact wpAny_bind (z79 hfr hl hf F hns hH h)
end
section
variable {X:Cx} {pins:List (Addr × Obj)} {σ:St} {H:Hp} {s:Shared} {P:Program} {w:World}
def CXF (P:Program) (w:World):CXT:=fun outer H s E e s'=>
 ∃x cls H',e=.ref x∧s'.os=s.os∧AllBare s'.gens∧Un (frs outer) [] H H' s.heap s'.heap∧HOk P w H' s'.heap∧Zs s.heap H' x cls s'.heap∧E cls none H'
theorem HOk.keeps {n:Heap} {fs:List Addr} {h h':Heap} (x:HOk P w H h) (k:z1H n H fs h h') (hf:∀b∈fs,H b=none):HOk P w H h':=fun a o e=>
 (x a o e).stay (fun b u hb q=>k.same b u q (fun z=>by
  have hn:=hf b z
  rcases hb with rfl | hb
  ·rw [e] at hn;cases hn
  ·rw [hb] at hn;cases hn) (.inr (by
  rcases hb with rfl | hb
  ·rw [e];simp
  ·rw [hb];simp))) (fun _ q=>q) fun _ _ q=>q
theorem Un.keeps {n:Heap} {fs:List Addr} {H0:Hp} {h0 h h':Heap} (u:Un fs [] H0 H h0 h) (k:z1H n H fs h h') (hn:∀b o,h0.get? b=some o→n.get? b≠none):Un fs [] H0 H h0 h':=
 ⟨fun b o e nn hb hx=>k.same b o (u.keep b o e nn hb hx) hb (.inl (hn b o e)),
 fun b o e nn hb hx=>by
  obtain ⟨sl,q⟩:=u.slot b o e nn hb hx
  obtain ⟨sl',q'⟩:=k.slot b _ q hb
  exact ⟨sl',q'⟩,
 fun b o e nn hx=>u.free b o e nn hx,fun b o e hx=>by
  obtain ⟨o',q⟩:=u.there b o e hx
  exact k.there b o' q,u.tups,u.frzs,u.tbls⟩
theorem Zs.less {n m:Heap} {x:Addr} {cls:Value} {h:Heap} (F:Zs m H x cls h) (hn:∀b,m.get? b=none→n.get? b=none):Zs n H x cls h:=by
 obtain ⟨oe,vs,a,b,c,d,e,f,g⟩:=F
 refine ⟨oe,vs,a,b,c,d,hn _ e,f,?_⟩
 rcases g with g | ⟨T,oT,ts,g1,g2,g3,g4⟩
 ·exact .inl g
 ·exact .inr ⟨T,oT,ts,g1,g2,hn _ g3,g4⟩
def QB (X:Cx) (E:XK):Prop:=∀(pins:List (Addr × Obj)) (σ:St) (H:Hp) (s:Shared) (x:Addr) (cls:Value),Inv X pins σ H s→Zs X.s₀.heap H x cls s.heap→E cls none H→X.xe (.ref x) s
theorem Inv.older (I:Inv X pins σ H s) (hx:X.ex=[]) (b:Addr) (h:s.heap.get? b=none):X.s₀.heap.get? b=none:=by
 cases e:X.s₀.heap.get? b with
 | none=>rfl
 | some o=>
  obtain ⟨o',q⟩:=I.base.there b o e (by rw [hx];simp)
  rw [q] at h
  cases h
theorem zZ.some' {h:Heap} {a:Addr} {o:HO} (x:zZ P w H h a o):∃ob,h.get? a=some ob:=by
 cases o with
 | lst xs=>obtain ⟨_,_,_,_,e⟩:=x;exact ⟨_,e⟩
 | tup xs=>obtain ⟨_,_,_,ob,e,_⟩:=x;exact ⟨_,e⟩
 | dK kvs=>obtain ⟨_,_,_,_,o,_,_,e,_⟩:=x;exact ⟨_,e⟩
 | dT kvs=>obtain ⟨_,_,_,_,o,_,_,e,_⟩:=x;exact ⟨_,e⟩
 | set S n=>obtain ⟨o,_,_,_,e,_⟩:=x;exact ⟨_,e⟩
 | ins C dx fs=>obtain ⟨_,_,_,e,_⟩:=x;exact ⟨_,e⟩
 | own y=>exact x
 | xd fs=>obtain ⟨_,⟨_,_,_,e,_⟩,_⟩:=x;exact ⟨_,e⟩
 | rng lo hi=>obtain ⟨_,_,_,e⟩:=x;exact ⟨_,e⟩
 | frz ob u=>obtain ⟨e,_⟩:=x;exact ⟨_,e⟩
 | tbl ps=>exact ⟨_,show h.get? a=some _ from x⟩
 | met f y=>exact ⟨_,show h.get? a=some _ from x⟩
 | ext φ=>obtain ⟨_,e,_⟩:=x;exact e
theorem HOk.gone {h:Heap} (x:HOk P w H h) (a:Addr) (e:h.get? a=none):H a=none:=by
 cases q:H a with
 | none=>rfl
 | some o=>
  obtain ⟨ob,z⟩:=(x a o q).some'
  rw [z] at e
  cases e
theorem QB.pass {E E':XK} (T:QB X E) (hx:X.ex=[]) (hi:∀cls H,E' cls none H→E cls none H):Zy (CXF X.prog X.w) X E':=by
 intro pins σ H s e s' I h
 obtain ⟨x,cls,H',rfl,os,bare,un,hok,F,hE⟩:=h
 have I':=I.call' os un hok bare (fun b z=>absurd z (by simp))
 exact T pins σ H' s' x cls I' (F.less fun b hb=>I.older hx b hb) (hi _ _ hE)
theorem qa {K:ky} {mg:Str→Option Value} {base:Heap} {N:List Str} {qual:Str} {scope:Scope} {f:Addr} {cd:Value} {A:Around} {outer:List Env} {s:Shared} {H:Hp} {E:XK}:QB (cxOf (CXF P w) P w K mg base N qual scope f cd A outer s H E) E:=by
 intro pins σ H1 s1 x cls I F hE
 have hlt:∀b o,s.heap.get? b=some o→b < s.heap.objs.size:=fun b o e=>Heap.lt_size e
 refine z7i (base:=base) (n:=s.heap) I.ok.frames I.stack rfl F (fun b hb=>I.older rfl b hb) (fun a ha=>I.hok.gone a ha) fun h' k F'=>?_
 have u:Un (frs outer) [] H H1 s.heap s1.heap:=I.base
 have mem:∀b,b∈frs (envOfC qual scope s.heap.objs.size f cd :: outer)→b=s.heap.objs.size∨b∈frs outer:=fun b hb=>by
  unfold frs at hb
  rw [List.filterMap_cons] at hb
  exact kD.mp hb
 have memR:∀b,b∈frs outer→b∈frs (envOfC qual scope s.heap.objs.size f cd :: outer):=fun b hb=>by
  unfold frs
  rw [List.filterMap_cons]
  exact kQ _ hb
 have notIn:∀b o,s.heap.get? b=some o→b∉frs outer→b∉frs (envOfC qual scope s.heap.objs.size f cd :: outer):=fun b o e hb hm=>by
  rcases mem b hm with z | z
  ·have:=hlt b o e
   rw [z] at this
   exact absurd this (Nat.lt_irrefl _)
  ·exact hb z
 refine ⟨x,cls,H1,rfl,I.os,I.bare,⟨fun b o e nn hb hx=>?_,fun b o e nn hb hx=>?_,u.free,fun b o e hx=>?_,u.tups,u.frzs,u.tbls⟩,HOk.keeps I.hok k I.stkFree,F',hE⟩
 ·exact k.same b o (u.keep b o e nn hb hx) (notIn b o e hb) (.inl (by rw [e];simp))
 ·obtain ⟨sl,q⟩:=u.slot b o e nn hb hx
  obtain ⟨sl',q'⟩:=k.slot b _ q (memR b hb)
  exact ⟨sl',q'⟩
 ·obtain ⟨o',q⟩:=u.there b o e hx
  exact k.there b o' q
end
end L2
namespace L2
open PySem PySem.Spec PyProof.Rows
noncomputable def rtM:List Value:=[.type "RuntimeError",.type "Exception",.type "BaseException",.type "object"]
theorem z0s {K:ky} {h:Heap} {C:Addr} {bmB:List Value} {newId:String} (X:K.In h) (q:PySem.W.excIn K C bmB newId=true):
  ∃bm N nm qn bs hdct sn sub ab col dd k0 k1 k2 k3 k5 mN,h.get? C=some (excClassObj nm qn C N bs bm hdct sn sub ab col dd k0 k1 k2 k3 k5 newId)∧h.Ns N mN∧mN "__init__"=none∧OwnTail h bmB bm:=by
 unfold PySem.W.excIn at q
 split at q
 ·rename_i dd cd sl ho
  split at q
  ·rename_i C' bm k0 k1 k2 k3 n k5 hm hs
   simp only [yc,beq_iff_eq,Bool.not_eq_true'] at q
   obtain ⟨⟨⟨⟨⟨rfl,rfl⟩,hdel⟩,ht⟩,hok⟩,hni⟩:=q
   obtain ⟨nm,bs,mro,ns,qn,hd,sn,sub,ab,col,del⟩:=cd
   dsimp only at hm hdel hok hni
   subst hm hdel
   have hsl:sl=#[k0,k1,k2,k3,some (.builtin n),k5]:=by
    obtain ⟨l⟩:=sl
    simp only at hs
    rw [hs]
   subst hsl
   exact ⟨bm,ns,nm,qn,bs,hd,sn,sub,ab,col,dd,k0,k1,k2,k3,k5,_,X _ _ ho,.of_isNs (PySem.W.isNs_of_in X hok),PySem.W.nsMap_none_of_in X hok hni,PySem.W.tail_of_in X ht⟩
  ·cases q
 ·cases q
section
variable {X:Cx}
def z6A (E:XK) (C:Addr) (t:TA):TS:=fun _ σ H=>t σ H fun vs H1=>vs.length≤sizeLine∧E (.ref C) none H1
theorem QI {E:XK} {x:Str} {C:Addr} {np cpos pos:Pos} {e₀:Expr} {rest:List Expr} {t:TA} (T:QB X E) (hx:X.ex=[]) (hc:X.calm=true) (hg:Gl X x) (hm:X.mg x=some (.ref C)) (hC:PySem.W.excIn X.K C rtM "RuntimeError.__new__"=true) (ha:PA X (e₀ :: rest) t)
  (hd:autoParam ((x == ("__debug__":Str))=false) aR._auto_2) (he:autoParam (starEach (e₀ :: rest) X.env=(false,eval e₀ X.env) :: starEach rest X.env) aR._auto_1) (hpl:autoParam ((backTo cpos (starEach rest X.env)).any (·.1)=false) aR._auto_1):
  PS X (.Raise (some (.Call (.Name x np) (e₀ :: rest) [] cpos)) none pos) (z6A E C t):=by
 intro pins s σ H D I h
 obtain ⟨bm,N,nm,qn,bs,hdct,sn,sub,ab,col,dd,k0,k1,k2,k3,k5,mN,o1,o2,o3,o4⟩:=z0s I.ok.mod.kin hC
 have FR:=PySem.F.excBase_RuntimeError
 refine wpAny_Raise_call_subU (C:=C) (nm:=nm) (q:=qn) (N:=N) (bs:=bs) (bm:=bm) (hdct:=hdct) (sn:=sn) (sub:=sub) (ab:=ab) (col:=col) (dd:=dd) (k0:=k0) (k1:=k1) (k2:=k2) (k3:=k3) (k5:=k5)
  FR FR.hasB FR (mN:=mN) (o4.hasType FR.hasBase) (I.ok.hd hc) (by rw [he];show (false||(backTo cpos (starEach rest X.env)).any (·.1))=false;rw [hpl];rfl) o3 (jm I hg hm ⟨rfl,?_⟩ hd)
 have ha':=ha cpos pins s σ H _ I h
 rw [he] at ha' ⊢
 refine Calls.evalArgs_plain (wpAny_mono ha' (fun us s₂ h₂=>?_) fun _ _ y=>y)
 obtain ⟨vs,H1,I1,rv,hz,hE⟩:=h₂
 refine ⟨rfl,by rw [←rv.length];exact hz,I1.bk _ _ o1,o2.keeps I1.bk,o4.keeps I1.bk,fun h' e M=>?_⟩
 have I2:Inv X pins σ H1 { s₂ with heap:=h' }:=I1.kept (t':=s₂.toks) M.keeps
 obtain ⟨tt,q1,q2,q3⟩:=M.there
 exact T pins σ H1 _ e (.ref C) I2 ⟨_,_,q1,rfl,rfl,by simp,I1.older hx e M.new,I1.hok.gone e M.new,.inl rfl⟩ hE
end
end L2
namespace L2
open PySem PySem.Spec PyProof.Rows
section
variable {X:Cx} {pins:List (Addr × Obj)} {σ:St} {H:Hp} {s:Shared}
theorem QU {M:Model} {A:Around} {E:Value→Shared→Prop} {i:Nat} {x:Str} {pos:Pos} {Q:Unit→Shared→Prop} (I:Inv X pins σ H s) (hN:X.N.Nodup) (hi:X.N[i]?=some x) (hk:X.env.scope.names.lookup x=some .local)
  (h:∀s',Inv X pins (σ.set i none) H s'→Q () s'):wpAny M A (do bindName X.env x .none;unbindBehindTheSuite X.env x pos) Q E s:=by
 obtain ⟨m,hn,hl⟩:=id I.loc
 have hcls:(X.env.scope.kind == .class||(X.env.scope.kind == .module&&X.env.locals != X.env.globals))=false:=by rw [I.ok.kind];rfl
 have hiσ:i < σ.length:=by rw [I.len];exact (kf.mp hi).1
 have cne:=I.cne
 refine wpAny_nameGoes_keeps hk hn hcls fun h' v hn' hs=>?_
 obtain ⟨oL,_,_,hoL,_⟩:=id hn
 have tracked:HOk X.prog X.w H h':=fun b ob e=>by
  refine (I.hok b ob e).stay (fun c w' hc q=>(hs.2 c ?_).trans q) (fun _ q=>q) fun _ _ q=>q
  rintro rfl
  rcases hc with hc | hc
  ·rw [←hc,I.free] at e;cases e
  ·rw [I.free] at hc;cases hc
 refine h _ ⟨I.ok,I.os,I.bare,⟨fun b o e n hb hx=>?_,fun b o e n hb hx=>?_,I.base.free,fun b o e hx=>?_,I.base.tups,I.base.frzs,I.base.tbls⟩,⟨_,hn',fun j y v' e1 e2 e3=>?_⟩,fun y c e=>?_,I.free,I.freeC,fun p hp=>?_,tracked,by simpa using I.len⟩
 ·exact (hs.2 b (Nat.ne_of_lt (kL (Heap.lt_size e) I.ok.above))).trans (I.base.keep b o e n hb hx)
 ·obtain ⟨sl,e1⟩:=I.base.slot b o e n hb hx
  exact ⟨sl,(hs.2 b (Nat.ne_of_lt (kL (Heap.lt_size e) I.ok.above))).trans e1⟩
 ·obtain ⟨o',e1⟩:=I.base.there b o e hx
  exact ⟨o',(hs.2 b (Nat.ne_of_lt (kL (Heap.lt_size e) I.ok.above))).trans e1⟩
 ·by_cases hj:j=i
  ·subst hj
   rw [List.getElem?_set_self hiσ] at e2
   cases e2
  ·rw [List.getElem?_set_ne (Ne.symm hj)] at e2
   obtain ⟨u',r',q⟩:=hl j y v' e1 e2 e3
   refine ⟨u',r',?_⟩
   rcases q with ⟨k,e⟩ | ⟨k,c,e,z⟩
   ·refine .inl ⟨k,?_⟩
    have:y≠x:=fun e=>hj (QO hN e1 (e▸hi))
    simp [this,e]
   ·exact .inr ⟨k,c,e,z.sameBut hs (cne y c e)⟩
 ·obtain ⟨w',z⟩:=I.cell y c e
  exact ⟨w',z.sameBut hs (cne y c e)⟩
 ·obtain ⟨e,n,ne,nf,d⟩:=I.pin p hp
  exact ⟨(hs.2 p.1 ne).trans e,n,ne,nf,d⟩
end
section
variable {M:Model} {A:Around} {E:Value→Shared→Prop}
variable {nm q:Str} {C N:Addr} {bs bm:List Value} {hdct:Bool} {sn:List Str} {sub:List Value} {ab:Bool} {col:Option Bool} {dd:Option Addr} {k0 k1 k2 k3 k5:Option Value} {newId:String}
variable {nm2 q2:Str} {C2 N2:Addr} {bs2 bm2:List Value} {hdct2:Bool} {sn2:List Str} {sub2:List Value} {ab2:Bool} {col2:Option Bool} {dd2:Option Addr} {j0 j1 j2 j3 j5:Option Value} {newId2:String}
theorem QV {h:Heap} {g:Array GenState} {d:Drawn} {t:Nat} {os:OsState} {e:Addr} {oe:Obj} {Q:Bool→Shared→Prop}
  (hC:h.get? C=some (excClassObj nm q C N bs bm hdct sn sub ab col dd k0 k1 k2 k3 k5 newId)) (hC2:h.get? C2=some (excClassObj nm2 q2 C2 N2 bs2 bm2 hdct2 sn2 sub2 ab2 col2 dd2 j0 j1 j2 j3 j5 newId2)) (he:h.get? e=some oe) (hcls:oe.cls=.ref C) (hbase:bm2.contains (.type "BaseException")=true) (hup:bm.contains (.ref C2)=true)
  (hq:Q true ⟨h,g,d,t,os⟩):wpAny M A (excMatches (.ref e) (.ref C2)) Q E ⟨h,g,d,t,os⟩:=by
 have hcB:(Value.ref C2 :: bm2).contains (.type "BaseException")=true:=by rw [List.contains_cons,hbase,Bool.or_true]
 have hcC:(Value.ref C :: bm).contains (.ref C2)=true:=by rw [List.contains_cons,hup,Bool.or_true]
 have f:=tc_notTuple
 unfold excMatches
 repeat (first | (with_reducible refine wpAny_loadPart_at he ?_;rw [hcls]) | with_reducible refine wpAny_loadPart_at hC2 ?_ | (with_reducible refine wpAny_isSubtype_exc hC2 ?_;rw [hcB]) | (with_reducible refine wpAny_isSubtype_exc hC ?_;rw [hcC]) | wp_step)
 exact hq
end
end L2
namespace L2
open PySem PySem.Spec PyProof.Rows
section
variable {M:Model} {A:Around} {E:Value→Shared→Prop} {s:Shared}
theorem z6g {fs:List Addr} {e:Addr} {n:Heap} {H:Hp} {cls:Value} {Q:Unit→Shared→Prop} (hfs:∀b∈fs,∀o,s.heap.get? b=some o→∀vs,o.data≠.fields vs) (F:Zs n H e cls s.heap)
  (h:∀h',z1H n H fs s.heap h'→Zs n H e cls h'→Q () { s with heap:=h' }):wpAny M A (setFlight (.ref e) none) Q E s:=by
 obtain ⟨oe,vs,he,rfl,hd,hsz,hne,heH,h1 | ⟨T,oT,ts,h1,hTe,hTn,hTH,hT,hdT,h3⟩⟩:=F
 ·unfold setFlight
  refine wpAny_bind (wpAny_field he hd h1 ?_)
  rw [kz (by decide)]
  exact wpAny_pure (h s.heap ⟨fun _ _ q _ _=>q,fun b o q _=>⟨o.slots,q⟩,fun b o q=>⟨o,q⟩⟩ ⟨oe,vs,he,rfl,hd,hsz,hne,heH,.inl h1⟩)
 ·unfold setFlight
  refine wpAny_bind (wpAny_field he hd h1 ?_)
  rw [kA (show (Value.ref T != Value.none)=true from by simp)]
  refine wpAny_setField hT hdT (Array.getElem?_eq_some_iff.mp h3).1 (h _ ?_ ?_)
  ·have other:∀b,b≠T→(s.heap.update T (Obj.mapFields (·.setIfInBounds 3 ((none:Option Addr).elim Value.none fun f=>rawInt f)))).get? b=s.heap.get? b:=fun b hb=>Heap.get?_update_other _ _ (Ne.symm hb)
   refine ⟨fun b o hb _ hor=>?_,fun b o hb hm=>?_,fun b o hb=>?_⟩
   ·have hbT:b≠T:=fun z=>by
     rcases hor with q | q
     ·rw [z] at q;exact q hTn
     ·rw [z] at q;exact q hTH
    exact (other b hbT).trans hb
   ·have hbT:b≠T:=fun z=>by
     subst z
     exact hfs b hm oT hT ts hdT
    exact ⟨o.slots,(other b hbT).trans hb⟩
   ·by_cases hbT:b=T
    ·subst hbT
     exact ⟨_,Heap.get?_update_self _ hT (Obj.isFreed_of_fields (Obj.data_mapFields hdT _))⟩
    ·exact ⟨o,(other b hbT).trans hb⟩
  ·refine ⟨oe,vs,(Heap.get?_update_other _ _ hTe).trans he,rfl,hd,hsz,hne,heH,.inr ⟨T,_,_,h1,hTe,hTn,hTH,Heap.get?_update_self _ hT (Obj.isFreed_of_fields (Obj.data_mapFields hdT _)),Obj.data_mapFields hdT _,?_⟩⟩
   rw [Array.getElem?_setIfInBounds_self]
   rw [kA (Array.getElem?_eq_some_iff.mp h3).1]
   rfl
end
noncomputable def z1I (x:Addr) (cls:Value):HO:=.ext fun h=>∃oe vs,h.get? x=some oe∧oe.cls=cls∧oe.data=.fields vs
theorem HOk.caught {P:Program} {w:World} {H:Hp} {n h:Heap} {x:Addr} {cls:Value} (ok:HOk P w H h) (F:Zs n H x cls h):HOk P w (upd H x (z1I x cls)) h:=by
 obtain ⟨oe,vs,he,hc,hd,_,_,hH,_⟩:=F
 intro a o e
 by_cases z:a=x
 ·subst z
  rw [z7] at e
  cases e
  refine ⟨⟨oe,vs,he,hc,hd⟩,⟨oe,he⟩,fun h1 h2 p k=>?_⟩
  obtain ⟨oe',vs',a1,a2,a3⟩:=p
  exact ⟨oe',vs',k _ a1,a2,a3⟩
 ·rw [ze z] at e
  exact (ok a o e).stay (fun _ _ _ q=>q) (fun b q=>by rw [ze (zc q hH)];exact q) fun b xs q=>by rw [ze (zc q hH)];exact q
theorem Un.caught {fs:List Addr} {H0 H:Hp} {h0 h:Heap} {x:Addr} {o:HO} (u:Un fs [] H0 H h0 h) (hx:h0.get? x=none) (hH:H x=none):Un fs [] H0 (upd H x o) h0 h:=
 ⟨u.keep,u.slot,fun b ob e nn hb=>by
  have:b≠x:=fun z=>by rw [z,hx] at e;cases e
  rw [ze this]
  exact u.free b ob e nn hb,u.there,fun b xs e=>by rw [ze (zc (u.tups b xs e) hH)];exact u.tups b xs e,fun b ob v e=>by rw [ze (zc (u.frzs b ob v e) hH)];exact u.frzs b ob v e,fun b ps e=>by
  obtain ⟨more,q⟩:=u.tbls b ps e
  exact ⟨more,by rw [ze (zc q hH)];exact q⟩⟩
noncomputable abbrev Cx.mk' (X:Cx) (x:Addr):Cx:={ X with A:=X.A.mark (some (.ref x)),calm:=false,xe:=fun _ _=>False }
section
variable {X:Cx} {pins:List (Addr × Obj)} {σ:St} {H:Hp} {s:Shared} {x:Addr}
theorem Cx.Ok.mk' (ok:X.Ok):(X.mk' x).Ok:=
 ⟨ok.mod,ok.kind,ok.glob,ok.blt,ok.above,ok.inj,ok.has,ok.cab,(fun h=>by cases h),ok.frames,ok.stk,ok.exf,ok.bs,ok.bsz,ok.noex,ok.exfs,ok.funs,ok.frf⟩
theorem Inv.mk' (I:Inv X pins σ H s):Inv (X.mk' x) pins σ H s:=⟨I.ok.mk',I.os,I.bare,I.base,I.loc,I.cell,I.free,I.freeC,I.pin,I.hok,I.len⟩
theorem Inv.unmk (ok:X.Ok) (I:Inv (X.mk' x) pins σ H s):Inv X pins σ H s:=⟨ok,I.os,I.bare,I.base,I.loc,I.cell,I.free,I.freeC,I.pin,I.hok,I.len⟩
end
noncomputable def upIn (K:ky) (C C2:Addr):Bool:=match K.lookup C with
 | some ⟨_,_,.cls cd,_⟩=>cd.mro.tail.contains (.ref C2)
 | _=>false
theorem z7J {K:ky} {h:Heap} {C C2 N:Addr} {nm q:Str} {bs bm:List Value} {hdct:Bool} {sn:List Str} {sub:List Value} {ab:Bool} {col:Option Bool} {dd:Option Addr} {k0 k1 k2 k3 k5:Option Value} {newId:String} (X:K.In h)
  (hC:h.get? C=some (excClassObj nm q C N bs bm hdct sn sub ab col dd k0 k1 k2 k3 k5 newId)) (u:upIn K C C2=true):bm.contains (.ref C2)=true:=by
 unfold upIn at u
 split at u
 ·rename_i ho
  have:=X _ _ ho
  rw [hC] at this
  cases this
  exact u
 ·cases u
end L2
namespace L2
open PySem PySem.Spec PyProof.Rows
section
variable {X:Cx} {k:Nat} {f CM:Addr} {fd:FuncData} {ps:List Str} {sp:Sp} {x found Mn en:Str} {p p1 p2 cpos apos hpos pos:Pos} {e:Expr} {es:List Expr} {t:TA} {b₀:Stmt} {suite:List Stmt} {ts:Addr→TS}
def z6z (K:ky) (CM:Addr) (i j:Nat) (sp:Sp) (t:TA) (ts:Addr→TS):TS:=fun D σ H=>t σ H fun vs H1=>sp vs H1 (fun v H2=>D.nx (σ.set i (some v)) H2)
 (fun cls _ H2=>∃C,cls=.ref C∧PySem.W.excIn K C rtM "RuntimeError.__new__"=true∧upIn K C CM=true∧∀x,H2 x=none→
  ts x { nx:=fun σ' H'=>D.nx (σ'.set j none) H',rt:=D.rt,bk:=fun σ' H'=>D.bk (σ'.set j none) H',ct:=fun σ' H'=>D.ct (σ'.set j none) H' } (σ.set j (some (.ref x))) (upd H2 x (z1I x (.ref C))))
theorem z3L {i j:Nat} (F:FnOk X.prog X.w X.K X.mg X.base (CXF X.prog X.w) k f fd ps sp) (hr:Room k X.A) (hg:Gl X x) (hm:X.mg x=some (.ref f)) (hk:PySem.W.keepIn X.K (.ref f)=true) (hb:jG X.K fd ps []) (ha:PA X.nox (e :: es) t)
  (hN:X.N.Nodup) (hi:X.N[i]?=some found) (hx:Loc X.env.scope found) (hj:X.N[j]?=some en) (hjx:X.env.scope.names.lookup en=some .local) (hgM:Gl X Mn) (hmM:X.mg Mn=some (.ref CM)) (hCM:PySem.W.excIn X.K CM rtM "RuntimeError.__new__"=true)
  (hfr:X.stack=X.env :: X.outer) (hfl:X.env.frame=some X.env.locals) (hs:∀a,PSs (X.mk' a) (b₀ :: suite) (ts a))
  (hsw:autoParam (swapsWith (.Call (.Name x p) (e :: es) [] cpos) (some (.Name found p1)) apos.line X.env=pure false) aR._auto_1) (hf:X.fn found=true∨X.env.scope.names.lookup found=some .local:=by first | exact .inl rfl | exact .inr rfl | assumption)
  (hdb:autoParam ((x == ("__debug__":Str))=false) aR._auto_2) (hdM:autoParam ((Mn == ("__debug__":Str))=false) aR._auto_2) (he:autoParam (starEach (e :: es) X.env=(false,eval e X.env) :: starEach es X.env) aR._auto_1) (hpl:autoParam ((backTo cpos (starEach es X.env)).any (·.1)=false) aR._auto_1):
  PS X (.Try [.Assign [.Name found p1] (.Call (.Name x p) (e :: es) [] cpos) apos] [.ExceptHandler (some (.Name Mn p2)) (some en) (b₀ :: suite) hpos] [] [] pos) (z6z X.K CM i j sp t ts):=by
 intro pins s σ H D I h
 refine wpAny_Try_except ?_
 refine wpAny_execs_cons ?_
 refine wpAny_Assign_Name ?_ hsw
 refine wpAny_Call_Name_kw (jm I hg hm ?_ hdb)
 refine PySem.W.callWith_K (h₀:=X.base) I.ok.mod.kin hk (wpAny_mono (ha cpos pins s σ H _ (I.wish _) h) (fun us s1 h1=>?_) fun _ _ z=>False.elim z) he hpl
 obtain ⟨vs,H1,I1',r1,q1⟩:=h1
 have I1:Inv X pins σ H1 s1:=I1'.unwish
 refine ⟨I1.kIn,?_⟩
 have hl:(us++([]:List Value)).length=ps.length:=by rw [kU,←r1.length];exact F.len _ _ _ _ q1
 have hbt:=hb s1 us I1.kIn hl
 rw [kU] at hbt
 refine wpAny_call (codeAny_mono (F.run X.A X.stack s1 H1 ⟨us,[]⟩ us vs _ _ hr I1.env0 hbt r1 q1) fun r s' hq=>?_)
 cases r with
 | ok fl=>
  cases fl with
  | ret u=>
   obtain ⟨y,H2,I2,r2,q2⟩:=I1.after hq
   exact jj I2 hN hi hx r2 (fun s3 I3=>wpAny_execs_nil (wpAny_execs_nil ⟨_,H2,I3,q2⟩)) hf
  | next=>exact False.elim hq
  | brk=>exact False.elim hq
  | cont=>exact False.elim hq
 | error ev=>
  obtain ⟨xa,cls,H2,rfl,os,bare,un,hok,Fl,C,rfl,hC,hup,hts⟩:=hq
  have I2:Inv X pins σ H2 s':=I1.call' os un hok bare (fun b z=>absurd z (by simp))
  have fsOf:∀{h':Heap},h'.FunFrames X.base (X.env :: X.outer)→∀b∈frs (X.env :: X.outer),∀o,h'.get? b=some o→∀vs,o.data≠.fields vs:=fun hl b hm o ho vs z=>by
   obtain ⟨_,o',ho',hnf⟩:=hl.mem hm
   rw [ho] at ho'
   cases ho'
   exact hnf vs z
  have older:∀b,s'.heap.get? b=none→s1.heap.get? b=none:=fun b hbn=>by
   cases z:s1.heap.get? b with
   | none=>rfl
   | some o=>
    obtain ⟨o',q⟩:=un.there b o z (by simp)
    rw [q] at hbn
    cases hbn
  have hst:=I2.stack
  rw [hfr] at hst
  have hfrs:=I2.ok.frames
  rw [hfr] at hfrs
  refine z79 (base:=X.base) (n:=s1.heap) hfrs hst hfl Fl older (fun a hz=>hok.gone a hz) fun h3 k3 F3=>?_
  have un3:Un (frs X.stack) [] H1 H2 s1.heap h3:=by
   rw [hfr] at un ⊢
   exact un.keeps k3 fun b o z=>by rw [z];simp
  have hfree:∀b∈frs (X.env :: X.outer),H2 b=none:=fun b hb=>I2.stkFree b (by rw [hfr];exact hb)
  have ok3:HOk X.prog X.w H2 h3:=HOk.keeps hok k3 hfree
  have I3:Inv X pins σ H2 { s' with heap:=h3 }:=I1.call' os un3 ok3 bare (fun b z=>absurd z (by simp))
  obtain ⟨bm,N,nm,qn,bs,hdct,sn,sub,ab,col,dd,k0,k1,k2,k3',k5,mN,o1,o2,o3,o4⟩:=z0s I3.kIn hC
  obtain ⟨bm2,N2,nm2,qn2,bs2,hdct2,sn2,sub2,ab2,col2,dd2,j0,j1,j2,j3,j5,mN2,u1,u2,u3,u4⟩:=z0s I3.kIn hCM
  obtain ⟨oe,ve,he3,hcl3,hd3,_⟩:=id F3
  have FR:=PySem.F.excBase_RuntimeError
  refine wpAny_handleBy_cons (codeAny_handlers_test ?_) (by intro z;cases z)
  refine jm (X:=X.mk' xa) (I3.mk' (x:=xa)) hgM hmM ?_ hdM
  refine QV o1 u1 he3 hcl3 (u4.hasType FR.hasBase) (z7J I3.kIn o1 hup) ?_
  refine codeAny_handlers_suite_as ?_
  have hst3:=I3.stack
  rw [hfr] at hst3
  refine z6g (fs:=frs (X.env :: X.outer)) (n:=s1.heap) (fsOf hst3) F3 fun h4 k4 F4=>?_
  have un4:Un (frs X.stack) [] H1 H2 s1.heap h4:=by
   rw [hfr] at un3 ⊢
   exact un3.keeps k4 fun b o z=>by rw [z];simp
  have ok4:HOk X.prog X.w H2 h4:=HOk.keeps ok3 k4 hfree
  obtain ⟨_,_,_,_,_,_,hxn,hxH,_⟩:=id F4
  have I4:Inv X pins σ (upd H2 xa (z1I xa (.ref C))) { s' with heap:=h4 }:=I1.call' os (un4.caught hxn hxH) (ok4.caught F4) bare (fun b z=>absurd z (by simp))
  refine jj I4 hN hj (.inl hjx) (v:=.ref xa) rfl (fun s5 I5=>?_) (.inr hjx)
  refine wpAny_mono (hs xa pins s5 _ _ _ (I5.mk' (x:=xa)) (hts xa hxH)) (fun fl s6 h6=>?_) fun _ _ z=>False.elim z
  cases fl with
  | next=>
   obtain ⟨σ6,H6,I6,q6⟩:=h6
   exact QU (I6.unmk I.ok) hN hj hjx fun s7 I7=>⟨_,H6,I7,q6⟩
  | brk=>
   obtain ⟨σ6,H6,I6,q6⟩:=h6
   exact QU (I6.unmk I.ok) hN hj hjx fun s7 I7=>⟨_,H6,I7,q6⟩
  | cont=>
   obtain ⟨σ6,H6,I6,q6⟩:=h6
   exact QU (I6.unmk I.ok) hN hj hjx fun s7 I7=>⟨_,H6,I7,q6⟩
  | ret u=>
   obtain ⟨v,σ6,H6,I6,r6,q6⟩:=h6
   exact QU (I6.unmk I.ok) hN hj hjx fun s7 I7=>⟨v,_,H6,I7,r6,q6⟩
end
end L2
namespace L2
open PySem PySem.Spec PyProof.Rows
noncomputable def j8:List Str:=["__init__","__getattribute__","__getattr__","__class__"]
inductive jL (h:Heap) (bmB:List Value):List Value→Prop
 | base:jL h bmB bmB
 | own {A:Addr} {c0:Value} {dd:Option Addr} {cd:ClassData} {sl:Array (Option Value)} {mA:Str→Option Value} {tl:List Value}:
   h.get? A=some { cls:=c0,dict:=dd,data:=.cls cd,slots:=sl }→h.Ns cd.ns mA→(∀n∈j8,mA n=none)→jL h bmB tl→jL h bmB (.ref A :: tl)
theorem jL.hasType {h:Heap} {bmB tl:List Value} (T:jL h bmB tl) {X:String} {b:Bool} (hb:bmB.contains (.type X)=b):tl.contains (.type X)=b:=by
 induction T with
 | base=>exact hb
 | own _ _ _ _ ih=>rw [List.contains_cons,ih];rfl
noncomputable def z3w (K:ky) (bmB:List Value):List Value→Bool
 | []=>bmB == []
 | v :: r=>(v :: r) == bmB||match v with
  | .ref A=>(match K.lookup A with
   | some ⟨_,_,.cls cd,_⟩=>PySem.W.nsOkIn K cd.ns&&j8.all (fun n=>PySem.W.nsIn K cd.ns n == some none)&&z3w K bmB r
   | _=>false)
  | _=>false
theorem z0D {K:ky} {h:Heap} {bmB:List Value} (X:K.In h):∀{l:List Value},z3w K bmB l=true→jL h bmB l
 | [],e=>by rw [←beq_iff_eq.mp e];exact .base
 | v :: r,e=>by
  unfold z3w at e
  rcases Bool.or_eq_true_iff.mp e with q | q
  ·rw [beq_iff_eq.mp q];exact .base
  ·split at q
   ·split at q
    ·rename_i ho
     simp only [yc,List.all_eq_true,beq_iff_eq] at q
     exact .own (X _ _ ho) (.of_isNs (PySem.W.isNs_of_in X q.1.1)) (fun n hn=>PySem.W.nsMap_none_of_in X q.1.1 (q.1.2 n hn)) (z0D X q.2)
    ·cases q
   ·cases q
noncomputable def excQ (K:ky) (C:Addr) (bmB:List Value) (newId:String):Bool:=match K.lookup C with
 | some ⟨.type "type",_,.cls cd,sl⟩=>(match cd.mro,sl.toList with
  | .ref C' :: bm,[_,_,_,_,some (.builtin n),_]=>C' == C&&n == newId&& !cd.hasDel&&z3w K bmB bm&&PySem.W.nsOkIn K cd.ns&&j8.all (fun n=>PySem.W.nsIn K cd.ns n == some none)
  | _,_=>false)
 | _=>false
theorem z4A {K:ky} {h:Heap} {C:Addr} {bmB:List Value} {newId:String} (X:K.In h) (q:excQ K C bmB newId=true):
  ∃bm N nm qn bs hdct sn sub ab col dd k0 k1 k2 k3 k5 mN,h.get? C=some (excClassObj nm qn C N bs bm hdct sn sub ab col dd k0 k1 k2 k3 k5 newId)∧h.Ns N mN∧(∀n∈j8,mN n=none)∧jL h bmB bm:=by
 unfold excQ at q
 split at q
 ·rename_i dd cd sl ho
  split at q
  ·rename_i C' bm k0 k1 k2 k3 n k5 hm hs
   simp only [yc,beq_iff_eq,Bool.not_eq_true',List.all_eq_true] at q
   obtain ⟨⟨⟨⟨⟨rfl,rfl⟩,hdel⟩,ht⟩,hok⟩,hni⟩:=q
   obtain ⟨nm,bs,mro,ns,qn,hd,sn,sub,ab,col,del⟩:=cd
   dsimp only at hm hdel hok hni
   subst hm hdel
   have hsl:sl=#[k0,k1,k2,k3,some (.builtin n),k5]:=by
    obtain ⟨l⟩:=sl
    simp only at hs
    rw [hs]
   subst hsl
   exact ⟨bm,ns,nm,qn,bs,hd,sn,sub,ab,col,dd,k0,k1,k2,k3,k5,_,X _ _ ho,.of_isNs (PySem.W.isNs_of_in X hok),fun m hm=>PySem.W.nsMap_none_of_in X hok (hni m hm),z0D X ht⟩
  ·cases q
 ·cases q
section
variable {M:Model} {A:Around} {E:Value→Shared→Prop} {h:Heap} {g:Array GenState} {d:Drawn} {t:Nat} {os:OsState}
theorem QP {bmB tl:List Value} {n:Str} {y:Option Value} {Q:Option Value→Shared→Prop} (hn:n∈j8) (T:jL h bmB tl) (hrest:lookupAlong bmB n=pure y) (hq:Q y ⟨h,g,d,t,os⟩):
  wpAny M A (lookupAlong tl n) Q E ⟨h,g,d,t,os⟩:=by
 induction T with
 | base=>rw [hrest];exact wpAny_pure hq
 | own hA hN hni _ ih=>
  rw [lookupAlong_cons]
  refine wpAny_bind (wpAny_classOwn_cls hA hN ?_)
  rw [hni n hn]
  exact ih
variable {nm q:Str} {C N:Addr} {bs bm bmB:List Value} {hdct:Bool} {sn:List Str} {sub:List Value} {ab:Bool} {col:Option Bool} {dd:Option Addr} {k0 k1 k2 k3 k5:Option Value} {B newId:String}
theorem ju {mN:Str→Option Value} {n:Str} {y:Option Value} {Q:Option Value→Shared→Prop} (hn:n∈j8)
  (hC:h.get? C=some (excClassObj nm q C N bs bm hdct sn sub ab col dd k0 k1 k2 k3 k5 newId)) (hN:h.Ns N mN) (hmN:∀n∈j8,mN n=none) (T:jL h bmB bm) (hbm:mroOf (.type B)=pure bmB)
  (hB:typeLookup (.type B) n=pure y) (hq:Q y ⟨h,g,d,t,os⟩):wpAny M A (typeLookup (.ref C) n) Q E ⟨h,g,d,t,os⟩:=by
 have hrest:lookupAlong bmB n=pure y:=by rw [typeLookup_eq,hbm] at hB;exact hB
 rw [typeLookup_eq]
 refine wpAny_bind (wpAny_mroOf_exc hC ?_)
 rw [lookupAlong_cons]
 refine wpAny_bind (wpAny_classOwn_exc hC hN ?_)
 rw [hmN n hn]
 exact QP hn T hrest hq
end
theorem z0n:typeLookup (.type "RuntimeError") "__class__"=pure (some (.builtin "object.__class__")):=by rw [typeLookup_type,builtinLookup_eq_fast];kernel_rfl
section
variable {prog:Program} {w:World} {A:Around} {E:Value→Shared→Prop} {h:Heap} {g:Array GenState} {d:Drawn} {t:Nat} {os:OsState} {a:Addr} {o:Obj}
 {nm q:Str} {C N:Addr} {bs bm:List Value} {hdct:Bool} {sn:List Str} {sub:List Value} {ab:Bool} {col:Option Bool} {dd:Option Addr} {k0 k1 k2 k3 k5:Option Value} {newId:String} {mN:Str→Option Value}
theorem J0 {R:Result→Shared→Prop} (hC:h.get? C=some (excClassObj nm q C N bs bm hdct sn sub ab col dd k0 k1 k2 k3 k5 newId)) (T:jL h rtM bm) (hx:h.get? a=some o) (hc:o.cls=.ref C) (hq:R (.ok (.ret (.ref C))) ⟨h,g,d,t,os⟩):
  codeAny (model prog w) A (.call (.builtin "getset_descriptor.__get__") ⟨[.builtin "object.__class__",.ref a,.ref C],[]⟩) R ⟨h,g,d,t,os⟩:=by
 have hT5:(⟨h,g,d,t,os⟩:Shared).TypeIs (.builtin "object.__class__") "getset_descriptor":=F.typeOf_object_class
 have hcB:(Value.ref C :: bm).contains (.type (".".intercalate ("object.__class__".cutAt '.').dropLast))=true:=by
  rw [F.owner_object_class,List.contains_cons,T.hasType (show rtM.contains (.type "object")=true by trivial)];rfl
 refine codeAny_call_builtin F.slot_gs_get.plain F.entry_gs_get (F.slot_gs_get.check _ _ _ _ _ _ _ _ hT5 (F.args_gs_get _ _ _) ?_)
 repeat (any_goals (first | assumption | (with_reducible refine wpAny_loadPart_at hx ?_;rw [hc]) | (with_reducible refine wpAny_isSubtype_exc hC ?_;rw [hcB]) | wp_step))
 refine ⟨Code.quiet_builtin _ (by trivial),codeAny_builtin F.entry_object_class ?_⟩
 unfold Builtin.«object.__class__»
 repeat (any_goals (first | assumption | (with_reducible refine wpAny_loadPart_at hx ?_;rw [hc]) | wp_step))
theorem Q6 {tk:Tok} {Q:Fin→Shared→Prop} (hC:h.get? C=some (excClassObj nm q C N bs bm hdct sn sub ab col dd k0 k1 k2 k3 k5 newId)) (hN:h.Ns N mN) (hmN:∀n∈j8,mN n=none) (T:jL h rtM bm) (hx:h.get? a=some o) (hc:o.cls=.ref C) (hq:Q (.done (.ret (.ref C))) ⟨h,g,d,t,os⟩):
  wpAny (model prog w) A (Builtin.«object.__getattribute__» ⟨[.ref a,.str "__class__" tk],[]⟩) Q E ⟨h,g,d,t,os⟩:=by
 have hT5:(⟨h,g,d,t,os⟩:Shared).TypeIs (.builtin "object.__class__") "getset_descriptor":=F.typeOf_object_class
 have f5:=F.typeOf_object_class
 have f6:=F.slot_gs_get.lookup
 have f7:=F.slot_gs_set.lookup
 have hmA:("__class__":Str)∈j8:=.tail _ (.tail _ (.tail _ (.head _)))
 have FB:=F.attrBase_RuntimeError
 repeat (any_goals (first | assumption | (with_reducible refine wpAny_loadPart_at hx ?_;rw [hc]) | with_reducible refine ju hmA hC hN hmN T FB.mro z0n ?_ | wp_step))
 refine J0 hC T hx hc ?_
 repeat (any_goals (first | assumption | wp_step))
theorem JU {M:Model} {jh:Value} {Q:Unit→Shared→Prop} (hC:h.get? C=some (excClassObj nm q C N bs bm hdct sn sub ab col dd k0 k1 k2 k3 k5 newId)) (T:jL h rtM bm)
  (hx:h.get? a=some o) (hc:o.cls=.ref C) (hq:Q () ⟨h,g,d,t,os⟩):wpAny M A (checkBuiltinCall "BaseException.__getattribute__" ⟨[.ref a,jh],[]⟩) Q E ⟨h,g,d,t,os⟩:=by
 have hk:builtinKind "BaseException.__getattribute__"=some .slot:=by trivial
 have hsplit:splitId "BaseException.__getattribute__"=some ("BaseException","__getattribute__"):=by trivial
 have hcB:(Value.ref C :: bm).contains (.type "BaseException")=true:=by rw [List.contains_cons,T.hasType (show rtM.contains (.type "BaseException")=true by trivial)];rfl
 have ha:=F.args_bexc_ga (.ref a) jh
 simp only [checkBuiltinCall,hk,hsplit]
 refine wpAny_bind ?_
 ·unfold isInstance
  repeat (first | (with_reducible refine wpAny_loadPart_at hx ?_;rw [hc]) | (with_reducible refine wpAny_isSubtype_exc hC ?_;rw [hcB]) | wp_step)
  exact hq
theorem JT {tk:Tok} {fill expr:Bool} {Q:Value→Shared→Prop} (hC:h.get? C=some (excClassObj nm q C N bs bm hdct sn sub ab col dd k0 k1 k2 k3 k5 newId)) (hN:h.Ns N mN) (hmN:∀n∈j8,mN n=none) (T:jL h rtM bm) (hx:h.get? a=some o) (hc:o.cls=.ref C) (hq:Q (.ref C) ⟨h,g,d,t,os⟩):
  wpAny (model prog w) A (getAttrBy (.ref a) (.str "__class__" tk) fill expr) Q E ⟨h,g,d,t,os⟩:=by
 have FB:=F.attrBase_RuntimeError
 have f3:=FB.ga.bind (.ref a)
 have hx0:(expr&&onTheHeap (Value.builtin "BaseException.__getattribute__"))=false:=by cases expr <;> rfl
 have hx2:(Value.builtin "BaseException.__getattribute__" == Value.builtin "object.__getattribute__")=false:=by trivial
 have hx1:(onTheHeap (Value.ref C)&&Value.builtin "BaseException.__getattribute__" == Value.builtin "object.__getattribute__")=false:=by rw [hx2];rfl
 have hm1:("__getattribute__":Str)∈j8:=.tail _ (.head _)
 have hm2:("__getattr__":Str)∈j8:=.tail _ (.tail _ (.head _))
 repeat (any_goals (first | assumption | (with_reducible refine wpAny_loadPart_at hx ?_;rw [hc]) | with_reducible refine ju hm1 hC hN hmN T FB.mro FB.ga.lookup ?_ | with_reducible refine ju hm2 hC hN hmN T FB.mro FB.noGetattr ?_ | wp_step))
 refine codeAny_call_builtin FB.ga.plain F.entry_bexc_ga (JU hC T hx hc (Q6 hC hN hmN T hx hc ?_))
 repeat (any_goals (first | assumption | wp_step))
theorem Qh {Q:Option Value→Shared→Prop} (hC:h.get? C=some (excClassObj nm q C N bs bm hdct sn sub ab col dd k0 k1 k2 k3 k5 newId)) (hN:h.Ns N mN) (hmN:∀n∈j8,mN n=none) (T:jL h rtM bm) (hx:h.get? a=some o) (hc:o.cls=.ref C) (hq:Q (some (.ref C)) ⟨h,g,d,t+1,os⟩):
  wpAny (model prog w) A (getAttr? (.ref a) "__class__") Q E ⟨h,g,d,t,os⟩:=by
 unfold getAttr? getAttrBy?
 repeat (any_goals (first | assumption | with_reducible apply JT hC hN hmN T hx hc | wp_step))
end
end L2
namespace L2
open PySem PySem.Spec PyProof.Rows
section
variable {prog:Program} {w:World} {A:Around} {E:Value→Shared→Prop} {h:Heap} {g:Array GenState} {d:Drawn} {t:Nat} {os:OsState} {a:Addr} {o:Obj}
 {nm q:Str} {C N:Addr} {bs bm:List Value} {hdct:Bool} {sn:List Str} {sub:List Value} {ab:Bool} {col:Option Bool} {dd:Option Addr} {k0 k1 k2 k3 k5:Option Value} {newId:String} {mN:Str→Option Value}
theorem z0j {dep:Int} {tk:Tok} {Q:Fin→Shared→Prop} (hx:h.get? a=some o) (hc:o.cls=.ref C) (hq:Q (.done (.ret (.bool true))) ⟨h,g,d,t,os⟩):
  wpAny (model prog w) A (Builtin.«isinstance.nested» ⟨[.ref a,.ref C,.int dep tk],[]⟩) Q E ⟨h,g,d,t,os⟩:=by
 have e:(Value.ref C == Value.ref C)=true:=yb _
 repeat (any_goals (first | assumption | (with_reducible refine wpAny_loadPart_at hx ?_;rw [hc]) | (rw [kA e]) | wp_step))
theorem Jr {C2:Addr} {c2d:Option Addr} {cd2:ClassData} {sl2:Array (Option Value)} {dep:Int} {tk:Tok} {Q:Fin→Shared→Prop} (hC:h.get? C=some (excClassObj nm q C N bs bm hdct sn sub ab col dd k0 k1 k2 k3 k5 newId)) (hN:h.Ns N mN) (hmN:∀n∈j8,mN n=none) (T:jL h rtM bm)
  (hx:h.get? a=some o) (hc:o.cls=.ref C) (hC2:h.get? C2=some { cls:=.type "type",dict:=c2d,data:=.cls cd2,slots:=sl2 }) (hne:(Value.ref C == Value.ref C2)=false) (hno:bm.contains (.ref C2)=false) (hq:Q (.done (.ret (.bool false))) ⟨h,g,d,t+1,os⟩):
  wpAny (model prog w) A (Builtin.«isinstance.nested» ⟨[.ref a,.ref C2,.int dep tk],[]⟩) Q E ⟨h,g,d,t,os⟩:=by
 have hcn:(Value.ref C :: bm).contains (.ref C2)=false:=by
  rw [List.contains_cons,hno,Bool.or_false]
  cases z:(Value.ref C2 == Value.ref C) with
  | false=>rfl
  | true=>
   rw [beq_iff_eq.mp z] at hne
   rw [yb] at hne
   cases hne
 have hn:¬((Value.ref C == Value.ref C2)=true):=by rw [hne];exact ka
 repeat (any_goals (first | assumption | (with_reducible refine wpAny_loadPart_at hx ?_;rw [hc]) | with_reducible refine wpAny_loadPart_at hC2 ?_ | with_reducible refine wpAny_loadPart_at hC ?_ | (with_reducible refine wpAny_isSubtype_exc hC ?_;rw [hcn]) | with_reducible apply Qh hC hN hmN T hx hc | (rw [kz hn]) | wp_step))
theorem z2w {dep:Int} {tk:Tok} {Q:Fin→Shared→Prop} (hC:h.get? C=some (excClassObj nm q C N bs bm hdct sn sub ab col dd k0 k1 k2 k3 k5 newId)) (T:jL h rtM bm) (hx:h.get? a=some o) (hc:o.cls=.ref C) (hq:Q (.done (.ret (.bool true))) ⟨h,g,d,t,os⟩):
  wpAny (model prog w) A (Builtin.«isinstance.nested» ⟨[.ref a,.type "RuntimeError",.int dep tk],[]⟩) Q E ⟨h,g,d,t,os⟩:=by
 have hcy:(Value.ref C :: bm).contains (.type "RuntimeError")=true:=by rw [List.contains_cons,T.hasType (show rtM.contains (.type "RuntimeError")=true by trivial)];rfl
 have hn:¬((Value.ref C == Value.type "RuntimeError")=true):=fun z=>by cases (beq_iff_eq.mp z)
 have hty:typeOf (.type "RuntimeError")=pure (.type "type"):=by kernel_rfl
 repeat (any_goals (first | assumption | (with_reducible refine wpAny_loadPart_at hx ?_;rw [hc]) | with_reducible refine wpAny_loadPart_at hC ?_ | (with_reducible refine wpAny_isSubtype_exc hC ?_;rw [hcy]) | (rw [kz hn]) | (rw [hty]) | wp_step))
end
theorem z7K {K:ky} {h:Heap} {C C2 N:Addr} {nm q:Str} {bs bm:List Value} {hdct:Bool} {sn:List Str} {sub:List Value} {ab:Bool} {col:Option Bool} {dd:Option Addr} {k0 k1 k2 k3 k5:Option Value} {newId newId2:String} {bmB:List Value} (X:K.In h)
  (hC:h.get? C=some (excClassObj nm q C N bs bm hdct sn sub ab col dd k0 k1 k2 k3 k5 newId)) (hq:excQ K C bmB newId2=true):upIn K C C2=bm.contains (.ref C2):=by
 unfold excQ at hq
 split at hq
 ·rename_i ho
  have:=X _ _ ho
  rw [hC] at this
  cases this
  unfold upIn
  rw [ho]
  rfl
 ·cases hq
noncomputable def ZC (K:ky) (C:Addr):Bool:=match K.lookup C with
 | some ⟨.type "type",_,.cls _,_⟩=>true
 | _=>false
theorem z7G {K:ky} {h:Heap} {C:Addr} (X:K.In h) (q:ZC K C=true):∃d cd sl,h.get? C=some { cls:=.type "type",dict:=d,data:=.cls cd,slots:=sl }:=by
 unfold ZC at q
 split at q
 ·rename_i ho
  exact ⟨_,_,_,X _ _ ho⟩
 ·cases q
section
variable {X:Cx}
theorem qu:jt X (.builtin "isinstance") (fun xs H Q=>∃x C c b,xs=[.ref x,c]∧H x=some (z1I x (.ref C))∧excQ X.K C rtM "RuntimeError.__new__"=true∧
  ((c=.ty "RuntimeError"∧b=true)∨(∃C2,c=.ref C2∧((C2=C∧b=true)∨(C2≠C∧ZC X.K C2=true∧upIn X.K C C2=false∧b=false))))∧Q (.bl b) H):=by
 intro pins s σ H xs us Q I r h
 obtain ⟨x,C,c,b,rfl,hx,hC,hc,qq⟩:=h
 obtain ⟨u,u2,rfl,ru,r2⟩:=z1N r
 cases ru
 obtain ⟨bm,N,nm,qn,bs,hdct,sn,sub,ab,col,dd,k0,k1,k2,k3,k5,mN,o1,o2,o3,o4⟩:=z4A I.kIn hC
 obtain ⟨⟨oe,ve,e1,e2,e3⟩,_⟩:=I.hok x _ hx
 obtain ⟨hp,g,d,tk,os⟩:=s
 have fin:∀tk',EP X pins σ Q (.bool b) ⟨hp,g,d,tk',os⟩:=fun tk'=>⟨.bl b,H,I.tok tk',rfl,qq⟩
 rcases hc with ⟨rfl,rfl⟩ | ⟨C2,rfl,⟨rfl,rfl⟩ | ⟨hne,hcl,hup,rfl⟩⟩
 ·cases r2
  exact call_isinstance (S:=fun _ R s=>s=⟨hp,g,d,tk,os⟩∧R (.ok (.ret (.bool true))) s) (fun _ _ _ _ s hs=>by
   obtain ⟨rfl,hR⟩:=hs
   exact isinstance_outer (z2w o1 o4 e1 e2 hR) (by intro z;cases z)) ⟨rfl,fin tk⟩
 ·cases r2
  exact call_isinstance (S:=fun _ R s=>s=⟨hp,g,d,tk,os⟩∧R (.ok (.ret (.bool true))) s) (fun _ _ _ _ s hs=>by
   obtain ⟨rfl,hR⟩:=hs
   exact isinstance_outer (z0j e1 e2 hR) (by intro z;cases z)) ⟨rfl,fin tk⟩
 ·cases r2
  obtain ⟨d2,cd2,sl2,hC2⟩:=z7G I.kIn hcl
  rw [z7K I.kIn o1 hC] at hup
  have hb:(Value.ref C == Value.ref C2)=false:=by
   cases z:(Value.ref C == Value.ref C2) with
   | false=>rfl
   | true=>cases (beq_iff_eq.mp z);exact absurd rfl hne
  exact call_isinstance (S:=fun _ R s=>s=⟨hp,g,d,tk,os⟩∧R (.ok (.ret (.bool false))) { s with toks:=s.toks+1 }) (fun _ _ _ _ s hs=>by
   obtain ⟨rfl,hR⟩:=hs
   exact isinstance_outer (Jr o1 o2 o3 o4 e1 e2 hC2 hb hup hR) (by intro z;cases z)) ⟨rfl,fin (tk+1)⟩
end
end L2
namespace L2
open PySem PySem.Spec PyProof.Rows
section
variable {X:Cx}
def z5p:V→List V→Hp→VK→Prop:=fun x vs H Q=>∃(l:Addr) (bs:List Bool) (j:Nat),x=.ref l∧vs=[.bl true]∧H l=some (.lst (bs.map V.bl))∧bs[j]?=some true∧(∀m,m < j→bs[m]?=some false)∧bs.length≤1000∧Q (.int (j:Nat)) H
theorem z15 {bs:List Bool} {its:List Value} (r:Vals (bs.map V.bl) its) (hl:bs.length=its.length):∀(m:Nat) (hm:m < its.toArray.size),∃k,bs[m]?=some k∧its.toArray[m]=.bool k:=fun m hm=>by
 have hm:m < its.length:=by simpa using hm
 have k1:m < bs.length:=by lia
 obtain ⟨u,e1,r1⟩:=r.get (show (bs.map V.bl)[m]?=some (.bl bs[m]) by simp [k1])
 refine ⟨bs[m],by simp [k1],?_⟩
 have:=kK hm
 rw [e1] at this
 cases r1
 simpa using (kB this).symm
theorem z2z:MtM X "list.index" z5p:=by
 intro pins s σ H x vs v us Q I rx rv h
 obtain ⟨l,bs,j,rfl,rfl,hH,hj,hno,hz,q⟩:=h
 cases rx
 obtain ⟨u,rfl,ru⟩:=rv.one
 cases ru
 obtain ⟨z,its,n,r,hl,e⟩:=I.lstM hH
 rw [kj] at hl
 have at_:=z15 r (by lia)
 have hjl:j < bs.length:=(kf.mp hj).1
 refine call_meets F.slot_list_index ⟨_,e,rfl⟩ F.entry_list_index (F.args_list_index_2 _ _)
  (SeqAt.list_indexAt l its.toArray n none #[] (.bool true) (fun y=>match y with | .bool k=>k == true | _=>false) j (by rw [kE];lia) (by lia) ?_ ?_) ⟨e,?_,?_⟩
 ·obtain ⟨k,e1,e2⟩:=at_ j (by rw [kE];lia)
  rw [e2]
  rw [hj] at e1
  cases e1
  rfl
 ·intro m hm hlt
  obtain ⟨k,e1,e2⟩:=at_ m hm
  rw [e2]
  rw [hno m hlt] at e1
  cases e1
  rfl
 ·intro y hy
  obtain ⟨m,hm,rfl⟩:=Array.mem_iff_getElem.mp hy
  obtain ⟨k,e1,e2⟩:=at_ m hm
  rw [e2]
  exact SeqAt.EqAt.bool_bool _ _
 ·exact ⟨.int (j:Nat),H,I.tok _,⟨_,rfl⟩,q⟩
def z5q:V→List V→Hp→VK→Prop:=fun x vs H Q=>∃(l:Addr) (bs:List Bool),x=.ref l∧vs=[.bl true]∧H l=some (.lst (bs.map V.bl))∧bs.length≤1000∧Q (.int ((bs.countP id:Nat):Int)) H
theorem z2A:MtM X "list.count" z5q:=by
 intro pins s σ H x vs v us Q I rx rv h
 obtain ⟨l,bs,rfl,rfl,hH,hz,q⟩:=h
 cases rx
 obtain ⟨u,rfl,ru⟩:=rv.one
 cases ru
 obtain ⟨z,its,n,r,hl,e⟩:=I.lstM hH
 rw [kj] at hl
 have at_:=z15 r (by lia)
 have cnt:∀{bs:List Bool} {its:List Value},Vals (bs.map V.bl) its→its.countP (fun y=>match y with | .bool k=>k == true | _=>false)=bs.countP id:=by
  intro bs
  induction bs with
  | nil=>intro its r;cases r;rfl
  | cons b bs ih=>
   intro its r
   cases r with
   | cons a t=>
    cases a
    rw [List.countP_cons,List.countP_cons,ih t]
    cases b <;> rfl
 refine call_meets F.slot_list_count ⟨_,e,rfl⟩ F.entry_list_count (F.args_list_count_2 _ _)
  (SeqAt.list_countAt l its.toArray n none #[] (.bool true) (fun y=>match y with | .bool k=>k == true | _=>false)) ⟨e,?_,?_⟩
 ·intro y hy
  obtain ⟨m,hm,rfl⟩:=Array.mem_iff_getElem.mp hy
  obtain ⟨k,e1,e2⟩:=at_ m hm
  rw [e2]
  exact SeqAt.EqAt.bool_bool _ _
 ·have:=cnt r
  refine ⟨.int ((bs.countP id:Nat):Int),H,I.tok _,⟨s.toks,?_⟩,q⟩
  show Value.int ((List.countP _ its:Nat):Int) s.toks=_
  rw [this]
def z5o:V→List V→Hp→VK→Prop:=fun x vs H Q=>∃(l:Addr) (ss:List Str) (z:Str) (j:Nat),x=.ref l∧vs=[.str z]∧H l=some (.lst (ss.map V.str))∧ss[j]?=some z∧(∀m,m < j→ss[m]?≠some z)∧ss.length≤1000∧Q (.int (j:Nat)) H
theorem z2y:MtM X "list.index" z5o:=by
 intro pins s σ H x vs v us Q I rx rv h
 obtain ⟨l,ss,z0,j,rfl,rfl,hH,hj,hno,hz,q⟩:=h
 cases rx
 obtain ⟨u,rfl,t,rfl⟩:=rv.one
 obtain ⟨z,its,n,r,hl,e⟩:=I.lstM hH
 rw [kj] at hl
 have at_:∀(m:Nat) (hm:m < its.toArray.size),∃k tk,ss[m]?=some k∧its.toArray[m]=.str k tk:=fun m hm=>by
  have hm:m < its.length:=by simpa using hm
  have k1:m < ss.length:=by lia
  obtain ⟨u,e1,tk,r1⟩:=r.get (show (ss.map V.str)[m]?=some (.str ss[m]) by simp [k1])
  refine ⟨ss[m],tk,by simp [k1],?_⟩
  have:=kK hm
  rw [e1] at this
  rw [←r1]
  simpa using (kB this).symm
 have hjl:j < ss.length:=(kf.mp hj).1
 refine call_meets F.slot_list_index ⟨_,e,rfl⟩ F.entry_list_index (F.args_list_index_2 _ _)
  (SeqAt.list_indexAt l its.toArray n none #[] (.str z0 t) (fun y=>match y with | .str k _=>k == z0 | _=>false) j (by rw [kE];lia) (by lia) ?_ ?_) ⟨e,?_,?_⟩
 ·obtain ⟨k,tk,e1,e2⟩:=at_ j (by rw [kE];lia)
  rw [e2]
  rw [hj] at e1
  cases e1
  simp
 ·intro m hm hlt
  obtain ⟨k,tk,e1,e2⟩:=at_ m hm
  rw [e2]
  have:=hno m hlt
  rw [e1] at this
  simpa using fun z=>this (by rw [z])
 ·intro y hy
  obtain ⟨m,hm,rfl⟩:=Array.mem_iff_getElem.mp hy
  obtain ⟨k,tk,e1,e2⟩:=at_ m hm
  rw [e2]
  exact SeqAt.EqAt.str_str _ _ _ _
 ·exact ⟨.int (j:Nat),H,I.tok _,⟨_,rfl⟩,q⟩
end
end L2
namespace L2
open PySem PySem.Spec PyProof.Rows
section
variable {prog:Program} {w:World} {A:Around} {E:Value→Shared→Prop} {s:Shared}
end
section
variable {X:Cx}
end
end L2
namespace L2
open PySem PySem.Spec PyProof.Rows
section
variable {prog:Program} {w:World} {A:Around} {E:Value→Shared→Prop} {s:Shared}
end
section
variable {X:Cx}
end
end L2
namespace L2
open PySem PySem.Spec PyProof.Rows
section
variable {X:Cx}
end
end L2
namespace L2
open PySem PySem.Spec PyProof.Rows
section
variable {prog:Program} {w:World} {A:Around} {E:Value→Shared→Prop} {s:Shared}
end
theorem Qf {prog:Program} {w:World} {A:Around} {E:Value→Shared→Prop} {s:Shared} {it d:Addr} {i n ep:Nat} {Q:Value→Shared→Prop} (he:s.heap.IsKeyIter it d i n ep) (h:Q (.ref it) s):wpAny (model prog w) A (pyIter (.ref it)) Q E s:=by
 have hT:=he.typeIs
 refine wpAny_pyIter_slot hT F.slot_dict_keyiterator_iter (wpAny_call_entry F.slot_dict_keyiterator_iter hT F.entry_dict_keyiterator_iter ?_ (F.args_dict_keyiterator_iter_1 _))
 show wpAny _ _ (ret (.ref it)) _ _ s
 exact wpAny_pure ⟨_,rfl,"dict_keyiterator",_,hT,F.slot_dict_keyiterator_next.lookup,h⟩
section
variable {X:Cx} {tg:Expr}
end
end L2
set_option maxHeartbeats 8000000
namespace My
open PySem PySem.Spec PyProof.Rows L2
variable {P:Program} {w:World} {K:ky} {mg:Str→Option Value} {base:Heap}
def FNX (P:Program) (w:World) (K:ky) (mg:Str→Option Value) (base:Heap) (k:Nat) (name:Str) (ps:List Str) (sp:Sp):Prop:=
 ∃f fd,mg name=some (.ref f)∧PySem.W.keepIn K (.ref f)=true∧jG K fd ps []∧FnOk P w K mg base (CXF P w) k f fd ps sp
section
theorem FNX.of {name:Str} {st:Stmt} {N ps:List Str} {sp:Sp} {k:Nat} (D:zm K mg name st) (S:zj N ps (zd st))
  (hb:∀(kV doc pm:Value) (an:Option Addr) (cdv ct:Value) (us:List Value),us.length=ps.length→bindArgs (PySem.W.fnOf name name (qx st) (zE st) (zd st) .none kV doc pm an cdv ct) ⟨us,[]⟩=pure (ps.zip us))
  (len:∀vs H Q E,sp vs H Q E→vs.length=ps.length)
  (hbody:∀(f:Addr) (cdv:Value) (A:Around) (outer:List Env) (s:Shared) (H:Hp) (vs:List V) (Q:VK) (E:XK),Room k (A.deeper (envOfC name (zd st) s.heap.objs.size f cdv))→sp vs H Q E→
   ∃t,PSs (cxOf (CXF P w) P w K mg base N name (zd st) f cdv A outer s H E) (zE st) t∧t { nx:=fun _ H'=>Q .non H',rt:=Q } (qT N vs) H):FNX P w K mg base (k+1) name ps sp:=by
 obtain ⟨f,fd,F,m⟩:=D
 refine ⟨f,fd,m,F.kp,F.binds hb,?_⟩
 obtain ⟨oc,od,kV,doc,pm,an,cdv,ct,osl,rfl,lk,hcd⟩:=F.ex
 exact z5Y lk hcd S len fun A outer s H vs Q E hr hsp=>hbody f cdv A outer s H vs Q E hr hsp
end
section
variable {X:Cx} {k:Nat} {name:Str} {ps:List Str} {sp:Sp} {p pos:Pos} {e:Expr} {es:List Expr} {t:TA} {E:XK}
theorem Qo (F:FNX X.prog X.w X.K X.mg X.base k name ps sp) (hr:Room k X.A) (T:QB X E) (hx:X.ex=[]) (hg:Gl X name) (ha:PA X (e :: es) t) (hdb:autoParam ((name == ("__debug__":Str))=false) aR._auto_2)
  (he:autoParam (starEach (e :: es) X.env=(false,eval e X.env) :: starEach es X.env) aR._auto_1) (hpl:autoParam ((backTo pos (starEach es X.env)).any (·.1)=false) aR._auto_1):
  PE X (.Call (.Name name p) (e :: es) [] pos) (z5c sp [] E t):=by
 obtain ⟨f,fd,a,b,c,d⟩:=F
 exact z2q d hr hg a b c .nil (T.pass hx fun _ _ h=>h) ha hdb he hpl
end
section
def sWhB (K:ky) (H:Hp) (l:Addr) (rs:List Row):TS:=fun D σ H3=>∃d fl wd wl w0 ws r f0,σ=[some (.ref l),some (.ref d),some (.ref fl),some (.ref wd),some (.ref wl),none,none,none,none,none]∧rs[0]?=some r∧Zt rs 0 r 0 none=w0 :: ws∧
 Srch K H H3 d fl wd wl rs f0 [0] 1 3∧f0[0]?=some (some (0,[]))∧∀t fl u x H',Same H H'→H' t=some (.tup [.ref fl,.ref u])→H' u=some (.tup [.str w0,x])→D.rt (.ref t) H'
theorem z3s {f:Addr} {cdv:Value} {A:Around} {outer:List Env} {s:Shared} {H:Hp} {E:XK} {l:Addr} {as:List Addr} {rs:List Row} (hr:Room 7 (A.deeper (envOfC "searched" (zd (top 58)) s.heap.objs.size f cdv)))
  (hS:SqL K H l (as.map V.ref)) (hR:zL H as rs) (hc:Code rs) (FS:FN P w K mg base 5 "state_words" ["code","labels","place","state"] (spSw K)):
  PS (cxOf CX0 P w K mg base N54 "searched" (zd (top 58)) f cdv A outer s H E).nox z6L (sWhB K H l rs):=by
 have hu:=Zl hr
 have hr5:=hr.mono (show 5≤7 by decide)
 refine PS.imp (ZJ PassesOwn.never (jH (pv 4) (fun _=>rfl))
   (zb (zx (i:=5) sc58.nd rfl (Or.inl rfl) (z1h PySem.F.plainAttrs_list PySem.F.slot_list_pop PySem.F.type_list_pop z0T (pv 4) (z6 zh z8)))
   (zb (zx (i:=6) sc58.nd rfl (Or.inl rfl) (zu FS hr5 rfl (z6 (pv 0) (z6 (pv 1) (z6 (pv 5) (z6 (zS zN (pv 2) (pv 5) (fun _ _=>rfl)) z8))))))
   (zb (zJ (jH (pv 6) (fun _=>rfl)) (zf (zk (zB (z6 (pv 2) (z6 (zB (z6 (zS zN (pv 6) zh (fun _ _=>rfl)) (z6 (jy hu (pv 3) (pv 5) (fun _ _=>rfl)) z8))) z8))))) zq)
   zP)))) ?_
 rintro D σ H3 ⟨d,fl,wd,wl,w0,ws,r,f0,rfl,hr0,hw,S,hf0,q⟩
 refine ⟨fun m σ H2=>σ=[some (.ref l),some (.ref d),some (.ref fl),some (.ref wd),some (.ref wl),none,none,none,none,none]∧H2=H3,⟨0,rfl,rfl⟩,?_⟩
 rintro m σ H2 ⟨rfl,rfl⟩
 refine ⟨_,rfl,true,.inl ⟨_,SqL.of S.wts,rfl⟩,iteT ⟨fun _ _=>False,fun _ _ z=>z.elim,?_⟩⟩
 obtain ⟨k1,k2,k3⟩:=pop0 (xs:=([0]:List Nat).map fun p=>V.int (p:Nat)) rfl
 refine ⟨_,rfl,.inl ⟨rfl,_,SqL.of S.wts⟩,wl,_,0,0,_,rfl,rfl,S.wts,by decide,by decide,k1,k2,?_⟩
 rw [k3]
 have S1:=S.pop
 generalize upd H2 wl (.lst (([]:List Nat).map fun p=>V.int (p:Nat)))=H3 at S1
 obtain ⟨fvs,hfl2,hF⟩:=S1.fnd
 obtain ⟨x,hx,hx2⟩:=hF.get hf0
 obtain ⟨sa,rfl,hsa⟩:=hx2
 refine ⟨_,rfl,_,rfl,_,rfl,_,rfl,_,rfl,fl,_,_,_,rfl,rfl,SqL.of hfl2,zr hx,l,d,0,sa,(0,[]),rs,r,rfl,S1.code hS hR hc,hr0,hsa,fun wf H4 s4 hn4 hwf=>?_⟩
 have hwf:H4 wf=some (.lst ((w0 :: ws).map V.str)):=by rw [←hw];exact hwf
 refine ⟨_,rfl,true,.inl ⟨_,SqL.of hwf,rfl⟩,iteT ?_⟩
 have S4:=S1.same' s4
 obtain ⟨kvs,hwd,hW,hkl⟩:=S4.wks
 obtain ⟨tp,np,ht1,ht2,ht3,ht4⟩:=hW 0 _ hf0
 have hgd:DGet H4 wd (.int (0:Nat)) (some (.ref tp)):=by rw [←ht1];exact DGet.k (k:=Sum.inl ((0:Nat):Int)) hwd
 refine ⟨_,rfl,_,rfl,wf,_,_,_,rfl,rfl,SqL.of hwf,zr (j:=0) rfl,_,rfl,_,rfl,wd,_,rfl,hgd,by show 2≤sizeLine;decide,fun u hu=>?_⟩
 refine ⟨by show 2≤sizeLine;decide,fun t ht=>?_⟩
 have s5:=zg hu (.tup [.str w0,.ref tp])
 have s6:=zg ht (.tup [.ref fl,.ref u])
 exact q t fl u _ _ (S4.same.trans (s5.trans s6)) z7 (s6 _ _ z7)
def ZS (K:ky):Sp:=fun vs H Q _=>∃l as rs r w0 ws,vs=[.ref l]∧SqL K H l (as.map V.ref)∧zL H as rs∧Code rs∧rs[0]?=some r∧Zt rs 0 r 0 none=w0 :: ws∧
 ∀t fl u x H',Same H H'→H' t=some (.tup [.ref fl,.ref u])→H' u=some (.tup [.str w0,x])→Q (.ref t) H'
end
section
theorem JN (D:zm K mg "searched" (top 58)) (G:Glo mg) (T:z3r w K mg) (FL:FN P w K mg base 7 "label_places" ["rows"] (Jb K)) (FS:FN P w K mg base 5 "state_words" ["code","labels","place","state"] (spSw K)):
  FN P w K mg base 8 "searched" ["code"] (ZS K):=by
 refine FN.o D sc58 fun f cdv A outer s H vs Q E hr h=>?_
 obtain ⟨l,as,rs,r,w0,ws,rfl,hS,hR,hc,hr0,hw,q⟩:=h
 have hu:=Zl hr
 have hu3:(A.deeper (envOfC "searched" (zd (top 58)) s.heap.objs.size f cdv)).units+3 < cLine:=by have:=hr.un;lia
 obtain ⟨fa,fg,mfa,tfa,tfg⟩:=T.first
 have hr5:=hr.mono (show 5≤7 by decide)
 have hr4:=hr.mono (show 4≤7 by decide)
 refine ⟨_,zb (zx (i:=1) sc58.nd rfl (Or.inl rfl) (zu FL hr rfl (z6 (pv 0) z8)))
  (zb (zx (i:=2) sc58.nd rfl (Or.inl rfl) (zY z4Y (qe (z6 zF z8)) (zl qb rfl G.len zR (z6 (pv 0) z8))))
  (zb (qO (zA rfl mfa (v:=.ref fa) rfl) (ZX (pv 2) zh jk))
  (zb (zx (i:=3) sc58.nd rfl (Or.inl rfl) (ZY (qB zh (zB (z6 zh z8)) Zd) rfl rfl nofun (by decide)))
  (zb (zx (i:=4) sc58.nd rfl (Or.inl rfl) (qe (z6 zh z8)))
  (zb (z3s hr hS hR hc FS)
  (zf (zk (zB (z6 (pv 2) (z6 zF z8)))))))))),?_⟩
 have hlen:=hc.hi
 have hlo:=hc.lo
 refine ⟨_,rfl,l,as,rs,rfl,hS,hR,hc.ok,by lia,fun d kvs0 H1 hd0 s1 hd1 hL=>?_⟩
 have hll:as.length=rs.length:=hR.len
 refine ⟨by show 1≤sizeLine;decide,fun p0 hp0=>?_⟩
 have t0:=zg hp0 (.lst [V.non])
 refine ⟨_,rfl,l,_,rfl,.inl (t0.seq (s1.seq hS)),p0,_,[V.non],rfl,rfl,z7,?_,?_,?_,fun fl hfl=>?_⟩
 ·rw [kj];lia
 ·rw [kj];lia
 ·rw [kj]
  show 1 * ((as.length:Nat):Int).toNat≤sizeLine
  rw [sizeLine_eq,kZ];lia
 have efl:(List.replicate (((as.map V.ref).length:Nat):Int).toNat [V.non]).flatten=List.replicate rs.length V.non:=by
  rw [kZ,kj,hll]
  generalize rs.length=n
  induction n with
  | zero=>rfl
  | succ n ih=>rw [List.replicate_succ,List.flatten_cons,ih];rfl
 rw [efl]
 have sA:Same H (upd H1 p0 (.lst [V.non])):=s1.trans t0
 have hfl0:H fl=none:=sA.free hfl
 have nfd:d≠fl:=zc (t0 _ _ hd1) hfl
 refine ⟨_,rfl,fl,_,0,0,rfl,rfl,z7,?_,?_⟩
 ·unfold ixN
  rw [kA (by decide),kA (by rw [List.length_replicate];lia)]
  rfl
 rw [ZP]
 have f0:qk K (upd (upd H1 p0 (.lst [V.non])) fl (.lst ((List.replicate rs.length V.non).set 0 (.ref fa)))) ((List.replicate rs.length V.non).set 0 (.ref fa)) ((List.replicate rs.length none).set 0 (some (0,[]))):=
  qk.set (st:=(0,[])) ⟨fg,tfa.sq _,[],tfg.sq _,.nil⟩ 0 (Zm _ _ _)
 generalize hfv:(List.replicate rs.length V.non).set 0 (V.ref fa)=fvs0 at f0
 intro wd hwd
 have sB:Same H (upd (upd H1 p0 (.lst [V.non])) fl (.lst fvs0)):=fun b o e=>by rw [ze (zc e hfl0)];exact sA _ _ e
 generalize hHB:upd (upd H1 p0 (.lst [V.non])) fl (.lst fvs0)=HB at *
 have hflB:HB fl=some (.lst fvs0):=by rw [←hHB];exact z7
 have hdB:HB d=some (.dK kvs0):=by rw [←hHB,ze nfd];exact t0 _ _ hd1
 have hwd0:H wd=none:=sB.free hwd
 have s3:=zg hwd (.dK [])
 refine ⟨by show 1≤sizeLine;decide,fun p1 hp1=>?_⟩
 have s4:=zg hp1 (.tup [V.int 0])
 refine ⟨s4 _ _ z7,[(Sum.inl 0,.ref p1)],rfl,(by show 1≤15;decide),?_⟩
 have em:qz [] [((Sum.inl 0:Key),V.ref p1)]=[(Sum.inl 0,V.ref p1)]:=rfl
 rw [em]
 refine ⟨by show 1≤sizeLine;decide,fun wl hwl=>?_⟩
 have npw:p1≠wd:=(zc (H:=upd HB wd (.dK [])) z7 hp1).symm
 have hwl':wl≠wd:=fun z=>by rw [z,z7] at hwl;cases hwl
 have hwl2:(upd (upd HB wd (.dK [])) p1 (.tup [V.int 0])) wl=none:=by rw [ze hwl'] at hwl;exact hwl
 have sC:Same HB (upd (upd HB wd (.dK [])) p1 (.tup [V.int 0])):=s3.trans s4
 have hwlB:HB wl=none:=sC.free hwl2
 have sD:Same HB (upd (upd (upd (upd HB wd (.dK [])) p1 (.tup [V.int 0])) wd (.dK [(Sum.inl 0,V.ref p1)])) wl (.lst [V.int 0])):=fun b o e=>by
  rw [ze (zc e hwlB),ze (zc e hwd)];exact sC _ _ e
 generalize hHD:upd (upd (upd (upd HB wd (.dK [])) p1 (.tup [V.int 0])) wd (.dK [(Sum.inl 0,V.ref p1)])) wl (.lst [V.int 0])=HD at *
 have hp1D:HD p1=some (.tup [V.int 0]):=by
  rw [←hHD,ze (fun z=>by rw [←z,z7] at hwl2;cases hwl2),ze npw];exact z7
 have hwdD:HD wd=some (.dK [(Sum.inl 0,V.ref p1)]):=by rw [←hHD,ze hwl'.symm];exact z7
 have hwlD:HD wl=some (.lst [V.int 0]):=by rw [←hHD];exact z7
 have qT:Srch K H HD d fl wd wl rs ((List.replicate rs.length none).set 0 (some (0,[]))) [0] (301 - 300) (3 * (301 - 300)):=by
  refine ⟨sB.trans sD,⟨kvs0,sD _ _ hdB,hL⟩,hfl0,hwd0,sB.free hwlB,⟨fvs0,sD _ _ hflB,f0.keep (qd.of sD)⟩,⟨_,hwdD,fun p st e=>?_,(by show 1≤3;decide)⟩,hwlD,(by show 1≤3;decide),by simp,zc hdB hwd,zc hflB hwlB⟩
  have hp:p=0:=by
   rw [List.getElem?_set] at e
   by_cases z:0=p
   ·exact z.symm
   ·rw [kz z,List.getElem?_replicate] at e
    split at e <;> cases e
  subst hp
  exact ⟨p1,_,rfl,hp1D,nofun,(by show 1≤1;decide)⟩
 exact ⟨d,fl,wd,wl,w0,ws,r,_,rfl,hr0,hw,qT,by rw [List.getElem?_set_self (by rw [List.length_replicate];lia)],fun t fl u x H' s' h1 h2=>q t fl u x H' s' h1 h2⟩
end
set_option maxHeartbeats 4000000
structure jd (K:ky) (C:Addr):Prop where
 cl:Cls K C
 held:qP K C "held"
 known:qP K C "known"
 said:qP K C "said"
structure Mst where
 st:List V
 kn:List (Key × V)
 sd:List V
 deriving DecidableEq
structure qD (H:Hp) (C ho hl kd sl dx:Addr) (m:Mst):Prop where
 ins:H ho=some (.ins C dx [("held",.ref hl),("known",.ref kd),("said",.ref sl)])
 held:H hl=some (.lst m.st)
 known:H kd=some (.dK m.kn)
 said:H sl=some (.lst m.sd)
 ne:hl≠sl
inductive Res where
 | next | go | fault (k:Str) | value (v:V)
 deriving DecidableEq
noncomputable def resV:Res→List V
 | .next=>[.str "next",.non]
 | .go=>[.str "go",.non]
 | .fault k=>[.str "fault",.str k]
 | .value v=>[.str "value",v]
structure Cons (K:ky) (mg:Str→Option Value):Prop where
 next:∃a,mg "NEXT"=some (.ref a)∧KTup K a [.str "next",.non]
 go:∃a,mg "GO"=some (.ref a)∧KTup K a [.str "go",.non]
 unset:∃a,mg "UNSET"=some (.ref a)∧KTup K a [.str "fault",.str "Unset"]
 on:∃a,mg "ON"=some (.ref a)∧KTup K a [.str "on"]
abbrev Deed:=Str→V→Mst→Option (Res × Mst)
def zU (H H':Hp) (a b c:Addr):Prop:=∀x o,H x=some o→x≠a→x≠b→x≠c→H' x=some o
def zO (K:ky) (C:Addr) (g:Deed):Sp:=fun vs H Q _=>∃ho hl kd sl dx op arg m res m',vs=[.ref ho,.str op,arg]∧qD H C ho hl kd sl dx m∧g op arg m=some (res,m')∧
 ∀t H',SqT K H' t (resV res)→qD H' C ho hl kd sl dx m'→zU H H' hl kd sl→Q (.ref t) H'
theorem z6v {K:ky} {C:Addr} {g:Deed} (vs:List V) (H:Hp) (Q:VK) (E:XK) (h:zO K C g vs H Q E):vs.length=3:=by
 obtain ⟨_,_,_,_,_,_,_,_,_,_,rfl,_⟩:=h
 rfl
theorem qD.setHeld {H:Hp} {C ho hl kd sl dx:Addr} {m:Mst} (h:qD H C ho hl kd sl dx m) (xs:List V):qD (upd H hl (.lst xs)) C ho hl kd sl dx { m with st:=xs }:=
 ⟨by rw [ze (zD h.ins h.held nofun)];exact h.ins,z7,by rw [ze (zD h.known h.held nofun)];exact h.known,by rw [ze h.ne.symm];exact h.said,h.ne⟩
theorem qD.setSaid {H:Hp} {C ho hl kd sl dx:Addr} {m:Mst} (h:qD H C ho hl kd sl dx m) (xs:List V):qD (upd H sl (.lst xs)) C ho hl kd sl dx { m with sd:=xs }:=
 ⟨by rw [ze (zD h.ins h.said nofun)];exact h.ins,by rw [ze h.ne];exact h.held,by rw [ze (zD h.known h.said nofun)];exact h.known,z7,h.ne⟩
theorem qD.setKnown {H:Hp} {C ho hl kd sl dx:Addr} {m:Mst} (h:qD H C ho hl kd sl dx m) (kn:List (Key × V)):qD (upd H kd (.dK kn)) C ho hl kd sl dx { m with kn:=kn }:=
 ⟨by rw [ze (zD h.ins h.known nofun)];exact h.ins,by rw [ze (zD h.held h.known nofun)];exact h.held,z7,by rw [ze (zD h.said h.known nofun)];exact h.said,h.ne⟩
theorem qD.same {H H':Hp} {C ho hl kd sl dx:Addr} {m:Mst} (h:qD H C ho hl kd sl dx m) (s:Same H H'):qD H' C ho hl kd sl dx m:=⟨s _ _ h.ins,s _ _ h.held,s _ _ h.known,s _ _ h.said,h.ne⟩
theorem zU.refl {H:Hp} {a b c:Addr}:zU H H a b c:=fun _ _ e _ _ _=>e
theorem zU.trans {H H1 H2:Hp} {a b c:Addr} (x:zU H H1 a b c) (y:zU H1 H2 a b c):zU H H2 a b c:=fun z o e h1 h2 h3=>y z o (x z o e h1 h2 h3) h1 h2 h3
theorem zU.of {H H':Hp} {a b c:Addr} (s:Same H H'):zU H H' a b c:=fun z o e _ _ _=>s z o e
theorem zU.a {H:Hp} {a b c:Addr} {o:HO}:zU H (upd H a o) a b c:=fun z o e h1 _ _=>by rw [ze h1];exact e
theorem zU.b {H:Hp} {a b c:Addr} {o:HO}:zU H (upd H b o) a b c:=fun z o e _ h1 _=>by rw [ze h1];exact e
theorem zU.c {H:Hp} {a b c:Addr} {o:HO}:zU H (upd H c o) a b c:=fun z o e _ _ h1=>by rw [ze h1];exact e
theorem z5C {xs:List V} {v:V} (h:xs.getLast?=some v):xs=xs.dropLast++[v]:=by
 have hne:xs≠[]:=fun z=>by rw [z] at h;cases h
 rw [List.getLast?_eq_getLast hne] at h
 cases h
 exact (List.dropLast_concat_getLast hne).symm
theorem qM {xs:List V} {v:V} (h:xs.getLast?=some v):xs[xs.length - 1]?=some v:=by
 rw [←List.getLast?_eq_getElem?];exact h
noncomputable def Zb:V→Bool
 | .str z=>decide (z.length≤1000)
 | .non=>true
 | .bl _=>true
 | .int _=>true
 | _=>false
theorem Za {x:V} (h:Zb x=true):Scal x:=by
 cases x with
 | str z=>exact .str z (Jf (kC h))
 | non=>exact .non
 | bl b=>exact .bl b
 | int i=>exact .int i
 | _=>cases h
noncomputable def qZ (n:Nat):Bool:=decide (n≤1000)
noncomputable def z2S:Deed:=fun _ arg m=>if qZ m.st.length=true then some (.next,{ m with st:=m.st++[arg] }) else none
noncomputable def z2U:Deed:=fun _ arg m=>match arg with
 | .str nm=>(match valV m.kn (Sum.inr nm:Key) with
  | none=>some (.fault "Unset",m)
  | some v=>if qZ m.st.length=true then some (.next,{ m with st:=m.st++[v] }) else none)
 | _=>none
noncomputable def JK:Deed:=fun _ arg m=>match arg with
 | .str nm=>if qZ m.st.length=true then some (.next,{ m with st:=m.st++[(valV m.kn (Sum.inr nm:Key)).getD .non] }) else none
 | _=>none
noncomputable def JI:Deed:=fun _ arg m=>match arg with
 | .str nm=>(match m.st.getLast? with
  | some v=>if qZ m.kn.length=true then some (.next,{ m with st:=m.st.dropLast,kn:=putK m.kn (Sum.inr nm) v }) else none
  | none=>none)
 | _=>none
noncomputable def JL:Deed:=fun _ arg m=>match arg with
 | .str nm=>(match valV m.kn (Sum.inr nm:Key) with
  | none=>some (.fault "Unset",m)
  | some _=>some (.next,{ m with kn:=z1B m.kn (Sum.inr nm) }))
 | _=>none
noncomputable def z2Q:Deed:=fun _ _ m=>match m.st.getLast? with
 | some v=>if qZ m.sd.length=true then some (.next,{ m with st:=m.st.dropLast,sd:=m.sd++[v] }) else none
 | none=>none
noncomputable def gIf:Deed:=fun op _ m=>match m.st.getLast? with
 | some v=>if Zb v=true then some (if z0C v=decide (op="iftrue") then .go else .next,{ m with st:=m.st.dropLast }) else none
 | none=>none
noncomputable def gOr:Deed:=fun op _ m=>match m.st.getLast? with
 | some v=>if Zb v=true then some (if z0C v=decide (op="ortrue") then (.go,m) else (.next,{ m with st:=m.st.dropLast })) else none
 | none=>none
noncomputable def Q4:Deed:=fun _ _ m=>match m.st.getLast? with
 | some v=>some (.value v,{ m with st:=m.st.dropLast })
 | none=>none
section
variable {C:Addr}
theorem qR {n:Nat} (h:qZ n=true):n < sizeLine:=zV (kC h)
theorem sc84:zj ["hold","op","arg"] ["hold","op","arg"] (zd (top 84)):=fsM
theorem z5V (D:zm K mg "do_push" (top 84)) (c:jd K C) (cs:Cons K mg):FN P w K mg base 1 "do_push" ["hold","op","arg"] (zO K C z2S):=by
 refine FN.o D sc84 fun f cdv A outer s H vs Q E hr h=>?_
 obtain ⟨ho,hl,kd,sl,dx,op,arg,m,res,m',rfl,hA,hg,q⟩:=h
 obtain ⟨na,mn,tn⟩:=cs.next
 refine ⟨_,zb (zH (jr (zC (pv 0) rfl) (z6 (pv 2) z8))) (zf (zk (zA rfl mn (v:=.ref na) rfl))),?_⟩
 unfold z2S at hg
 by_cases hz:qZ m.st.length=true
 case neg=>rw [kz hz] at hg;cases hg
 rw [kA hz] at hg
 cases hg
 refine ⟨_,rfl,ho,C,dx,_,.ref hl,rfl,hA.ins,c.cl,c.held,rfl,.inl ⟨rfl,_,SqL.of hA.held⟩,_,rfl,hl,_,_,rfl,rfl,hA.held,qR hz,?_⟩
 exact q na _ (tn.sq _) (hA.setHeld _) zU.a
theorem sc85:zj ["hold","op","arg"] ["hold","op","arg"] (zd (top 85)):=fsM
theorem z65 (D:zm K mg "do_load" (top 85)) (c:jd K C) (cs:Cons K mg):FN P w K mg base 1 "do_load" ["hold","op","arg"] (zO K C z2U):=by
 refine FN.o D sc85 fun f cdv A outer s H vs Q E hr h=>?_
 obtain ⟨ho,hl,kd,sl,dx,op,arg,m,res,m',rfl,hA,hg,q⟩:=h
 have hu:=Zl hr
 obtain ⟨na,mn,tn⟩:=cs.next
 obtain ⟨ua,mu,tu⟩:=cs.unset
 refine ⟨_,zb (zJ (z4V (Jm hu (pv 2) (zC (pv 0) rfl))) (zf (zk (zA rfl mu (v:=.ref ua) rfl))) zq)
  (zb (zH (jr (zC (pv 0) rfl) (z6 (jy hu (zC (pv 0) rfl) (pv 2) (fun _ _=>rfl)) z8))) (zf (zk (zA rfl mn (v:=.ref na) rfl)))),?_⟩
 cases arg with
 | str nm=>
  unfold z2U at hg
  dsimp only at hg
  have hgt:DGet H kd (.str nm) (valV m.kn (Sum.inr nm:Key)):=DGet.k (k:=Sum.inr nm) hA.known
  refine ⟨_,rfl,_,rfl,ho,C,dx,_,.ref kd,rfl,hA.ins,c.cl,c.known,rfl,kd,_,rfl,hgt,_,rfl,?_⟩
  cases hv:valV m.kn (Sum.inr nm:Key) with
  | none=>
   rw [hv] at hg
   cases hg
   exact iteT (q ua H (tu.sq _) hA zU.refl)
  | some v=>
   rw [hv] at hg hgt
   dsimp only at hg
   by_cases hz:qZ m.st.length=true
   case neg=>rw [kz hz] at hg;cases hg
   rw [kA hz] at hg
   cases hg
   refine iteF ⟨_,rfl,ho,C,dx,_,.ref hl,rfl,hA.ins,c.cl,c.held,rfl,.inl ⟨rfl,_,SqL.of hA.held⟩,_,rfl,ho,C,dx,_,.ref kd,rfl,hA.ins,c.cl,c.known,rfl,_,rfl,kd,v,rfl,hgt,hl,_,_,rfl,rfl,hA.held,qR hz,?_⟩
   exact q na _ (tn.sq _) (hA.setHeld _) zU.a
 | _=>cases hg
theorem sc86:zj ["hold","op","arg"] ["hold","op","arg"] (zd (top 86)):=fsM
theorem z4m (D:zm K mg "do_quick" (top 86)) (c:jd K C) (cs:Cons K mg):FN P w K mg base 1 "do_quick" ["hold","op","arg"] (zO K C JK):=by
 refine FN.o D sc86 fun f cdv A outer s H vs Q E hr h=>?_
 obtain ⟨ho,hl,kd,sl,dx,op,arg,m,res,m',rfl,hA,hg,q⟩:=h
 have hu:=Zl hr
 obtain ⟨na,mn,tn⟩:=cs.next
 refine ⟨_,zb (zH (jr (zC (pv 0) rfl) (z6 (z0Q hu (zC (pv 0) rfl) (pv 2) ⟨rfl,rfl,rfl,rfl⟩) z8))) (zf (zk (zA rfl mn (v:=.ref na) rfl))),?_⟩
 cases arg with
 | str nm=>
  unfold JK at hg
  dsimp only at hg
  have hgt:DGet H kd (.str nm) (valV m.kn (Sum.inr nm:Key)):=DGet.k (k:=Sum.inr nm) hA.known
  by_cases hz:qZ m.st.length=true
  case neg=>rw [kz hz] at hg;cases hg
  rw [kA hz] at hg
  cases hg
  refine ⟨_,rfl,ho,C,dx,_,.ref hl,rfl,hA.ins,c.cl,c.held,rfl,.inl ⟨rfl,_,SqL.of hA.held⟩,_,rfl,ho,C,dx,_,.ref kd,rfl,hA.ins,c.cl,c.known,rfl,kd,rfl,.inl ⟨_,.inl hA.known⟩,_,rfl,_,hgt,hl,_,_,rfl,rfl,hA.held,qR hz,?_⟩
  exact q na _ (tn.sq _) (hA.setHeld _) zU.a
 | _=>cases hg
theorem sc87:zj ["hold","op","arg"] ["hold","op","arg"] (zd (top 87)):=fsM
theorem z4k (D:zm K mg "do_store" (top 87)) (c:jd K C) (cs:Cons K mg):FN P w K mg base 1 "do_store" ["hold","op","arg"] (zO K C JI):=by
 refine FN.o D sc87 fun f cdv A outer s H vs Q E hr h=>?_
 obtain ⟨ho,hl,kd,sl,dx,op,arg,m,res,m',rfl,hA,hg,q⟩:=h
 have hu:=Zl hr
 obtain ⟨na,mn,tn⟩:=cs.next
 refine ⟨_,zb (z2f hu (zC (pv 0) rfl) (pv 2) (jq (zC (pv 0) rfl)) rfl) (zf (zk (zA rfl mn (v:=.ref na) rfl))),?_⟩
 cases arg with
 | str nm=>
  unfold JI at hg
  dsimp only at hg
  cases hv:m.st.getLast? with
  | none=>rw [hv] at hg;cases hg
  | some v=>
   rw [hv] at hg
   dsimp only at hg
   by_cases hz:qZ m.kn.length=true
   case neg=>rw [kz hz] at hg;cases hg
   rw [kA hz] at hg
   cases hg
   have h1:=hA.setHeld m.st.dropLast
   refine ⟨_,rfl,ho,C,dx,_,.ref hl,rfl,hA.ins,c.cl,c.held,rfl,.inl ⟨rfl,_,SqL.of hA.held⟩,hl,_,_,rfl,rfl,hA.held,qM hv,?_⟩
   refine ⟨_,rfl,ho,C,dx,_,.ref kd,rfl,h1.ins,c.cl,c.known,rfl,_,rfl,kd,_,rfl,DPut.k (k:=Sum.inr nm) h1.known (qR hz),?_⟩
   exact q na _ (tn.sq _) (h1.setKnown _) (zU.a.trans zU.b)
 | _=>cases hg
theorem sc88:zj ["hold","op","arg"] ["hold","op","arg"] (zd (top 88)):=fsM
theorem z4v (D:zm K mg "do_clear" (top 88)) (c:jd K C) (cs:Cons K mg):FN P w K mg base 1 "do_clear" ["hold","op","arg"] (zO K C JL):=by
 refine FN.o D sc88 fun f cdv A outer s H vs Q E hr h=>?_
 obtain ⟨ho,hl,kd,sl,dx,op,arg,m,res,m',rfl,hA,hg,q⟩:=h
 have hu:=Zl hr
 obtain ⟨na,mn,tn⟩:=cs.next
 obtain ⟨ua,mu,tu⟩:=cs.unset
 refine ⟨_,zb (zJ (z4V (Jm hu (pv 2) (zC (pv 0) rfl))) (zf (zk (zA rfl mu (v:=.ref ua) rfl))) zq)
  (zb (zH (z3S (zC (pv 0) rfl) (pv 2) ⟨rfl,rfl,rfl,rfl⟩)) (zf (zk (zA rfl mn (v:=.ref na) rfl)))),?_⟩
 cases arg with
 | str nm=>
  unfold JL at hg
  dsimp only at hg
  have hgt:DGet H kd (.str nm) (valV m.kn (Sum.inr nm:Key)):=DGet.k (k:=Sum.inr nm) hA.known
  refine ⟨_,rfl,_,rfl,ho,C,dx,_,.ref kd,rfl,hA.ins,c.cl,c.known,rfl,kd,_,rfl,hgt,_,rfl,?_⟩
  cases hv:valV m.kn (Sum.inr nm:Key) with
  | none=>
   rw [hv] at hg
   cases hg
   exact iteT (q ua H (tu.sq _) hA zU.refl)
  | some v=>
   rw [hv] at hg
   cases hg
   refine iteF ⟨_,rfl,ho,C,dx,_,.ref kd,rfl,hA.ins,c.cl,c.known,rfl,kd,rfl,.inl ⟨_,.inl hA.known⟩,_,rfl,_,Sum.inr nm,v,hA.known,rfl,hv,?_⟩
   exact q na _ (tn.sq _) (hA.setKnown _) zU.b
 | _=>cases hg
theorem sc95:zj ["hold","op","arg"] ["hold","op","arg"] (zd (top 95)):=fsM
theorem z5N (D:zm K mg "do_tell" (top 95)) (c:jd K C) (cs:Cons K mg):FN P w K mg base 1 "do_tell" ["hold","op","arg"] (zO K C z2Q):=by
 refine FN.o D sc95 fun f cdv A outer s H vs Q E hr h=>?_
 obtain ⟨ho,hl,kd,sl,dx,op,arg,m,res,m',rfl,hA,hg,q⟩:=h
 obtain ⟨na,mn,tn⟩:=cs.next
 refine ⟨_,zb (zH (jr (zC (pv 0) rfl) (z6 (jq (zC (pv 0) rfl)) z8))) (zf (zk (zA rfl mn (v:=.ref na) rfl))),?_⟩
 unfold z2Q at hg
 cases hv:m.st.getLast? with
 | none=>rw [hv] at hg;cases hg
 | some v=>
  rw [hv] at hg
  dsimp only at hg
  by_cases hz:qZ m.sd.length=true
  case neg=>rw [kz hz] at hg;cases hg
  rw [kA hz] at hg
  cases hg
  have h1:=hA.setHeld m.st.dropLast
  refine ⟨_,rfl,ho,C,dx,_,.ref sl,rfl,hA.ins,c.cl,c.said,rfl,.inl ⟨rfl,_,SqL.of hA.said⟩,_,rfl,ho,C,dx,_,.ref hl,rfl,hA.ins,c.cl,c.held,rfl,.inl ⟨rfl,_,SqL.of hA.held⟩,hl,_,_,rfl,rfl,hA.held,qM hv,sl,_,_,rfl,rfl,h1.said,qR hz,?_⟩
  exact q na _ (tn.sq _) (h1.setSaid _) (zU.a.trans zU.c)
theorem sc97:zj ["hold","op","arg"] ["hold","op","arg"] (zd (top 97)):=fsM
theorem jQ {a b:Str}:decide (V.str a=V.str b)=decide (a=b):=by
 by_cases h:a=b
 ·rw [h];simp
 ·rw [kh h,kh (fun z=>h (by injection z))]
theorem z8B (D:zm K mg "do_if" (top 97)) (c:jd K C) (cs:Cons K mg) (FT:FN P w K mg base 1 "is_true" ["value"] z0G):FN P w K mg base 2 "do_if" ["hold","op","arg"] (zO K C gIf):=by
 refine FN.o D sc97 fun f cdv A outer s H vs Q E hr h=>?_
 obtain ⟨ho,hl,kd,sl,dx,op,arg,m,res,m',rfl,hA,hg,q⟩:=h
 obtain ⟨na,mn,tn⟩:=cs.next
 obtain ⟨ga,mgo,tg⟩:=cs.go
 refine ⟨_,zf (zk (qG (zn qC (zu FT hr rfl (z6 (jq (zC (pv 0) rfl)) z8)) (qi qC (pv 1) zo (zt _)) (zt _)) (zA rfl mgo (v:=.ref ga) rfl) (zA rfl mn (v:=.ref na) rfl))),?_⟩
 unfold gIf at hg
 cases hv:m.st.getLast? with
 | none=>rw [hv] at hg;cases hg
 | some v=>
  rw [hv] at hg
  dsimp only at hg
  by_cases hz:Zb v=true
  case neg=>rw [kz hz] at hg;cases hg
  rw [kA hz] at hg
  cases hg
  have h1:=hA.setHeld m.st.dropLast
  refine ⟨_,rfl,ho,C,dx,_,.ref hl,rfl,hA.ins,c.cl,c.held,rfl,.inl ⟨rfl,_,SqL.of hA.held⟩,hl,_,_,rfl,rfl,hA.held,qM hv,v,rfl,Za hz,_,rfl,rfl,rfl,_,rfl,?_⟩
  rw [jQ,JR]
  refine ite2 (fun e=>?_) (fun e=>?_)
  ·rw [kA (eq_of_beq e)] at q
   exact q ga _ (tg.sq _) h1 zU.a
  ·rw [kz (fun z=>e (beq_iff_eq.mpr z))] at q
   exact q na _ (tn.sq _) h1 zU.a
theorem sc98:zj ["hold","op","arg"] ["hold","op","arg"] (zd (top 98)):=fsM
theorem z8y (D:zm K mg "do_or" (top 98)) (c:jd K C) (cs:Cons K mg) (FT:FN P w K mg base 1 "is_true" ["value"] z0G):FN P w K mg base 2 "do_or" ["hold","op","arg"] (zO K C gOr):=by
 refine FN.o D sc98 fun f cdv A outer s H vs Q E hr h=>?_
 obtain ⟨ho,hl,kd,sl,dx,op,arg,m,res,m',rfl,hA,hg,q⟩:=h
 obtain ⟨na,mn,tn⟩:=cs.next
 obtain ⟨ga,mgo,tg⟩:=cs.go
 refine ⟨_,zb (zJ (zn qC (zu FT hr rfl (z6 (zS zN (zC (pv 0) rfl) (jP qS zh) (fun _ _=>rfl)) z8)) (qi qC (pv 1) zo (zt _)) (zt _)) (zf (zk (zA rfl mgo (v:=.ref ga) rfl))) zq)
  (zb (zH (jq (zC (pv 0) rfl))) (zf (zk (zA rfl mn (v:=.ref na) rfl)))),?_⟩
 unfold gOr at hg
 cases hv:m.st.getLast? with
 | none=>rw [hv] at hg;cases hg
 | some v=>
  rw [hv] at hg
  dsimp only at hg
  by_cases hz:Zb v=true
  case neg=>rw [kz hz] at hg;cases hg
  rw [kA hz] at hg
  have hat:atI m.st (-1)=some v:=by rw [z5C hv];exact z16 _ _
  refine ⟨_,rfl,ho,C,dx,_,.ref hl,rfl,hA.ins,c.cl,c.held,rfl,1,rfl,hl,_,_,v,rfl,rfl,SqL.of hA.held,hat,v,rfl,Za hz,_,rfl,rfl,rfl,_,rfl,?_⟩
  rw [jQ,JR]
  refine ite2 (fun e=>?_) (fun e=>?_)
  ·rw [kA (eq_of_beq e)] at hg
   cases hg
   exact q ga _ (tg.sq _) hA zU.refl
  ·rw [kz (fun z=>e (beq_iff_eq.mpr z))] at hg
   cases hg
   refine ⟨_,rfl,ho,C,dx,_,.ref hl,rfl,hA.ins,c.cl,c.held,rfl,.inl ⟨rfl,_,SqL.of hA.held⟩,hl,_,_,rfl,rfl,hA.held,qM hv,?_⟩
   exact q na _ (tn.sq _) (hA.setHeld _) zU.a
theorem sc99:zj ["hold","op","arg"] ["hold","op","arg"] (zd (top 99)):=fsM
theorem z33 (D:zm K mg "do_return" (top 99)) (c:jd K C):FN P w K mg base 1 "do_return" ["hold","op","arg"] (zO K C Q4):=by
 refine FN.o D sc99 fun f cdv A outer s H vs Q E hr h=>?_
 obtain ⟨ho,hl,kd,sl,dx,op,arg,m,res,m',rfl,hA,hg,q⟩:=h
 refine ⟨_,zf (zk (zB (z6 zo (z6 (jq (zC (pv 0) rfl)) z8)))),?_⟩
 unfold Q4 at hg
 cases hv:m.st.getLast? with
 | none=>rw [hv] at hg;cases hg
 | some v=>
  rw [hv] at hg
  cases hg
  have h1:=hA.setHeld m.st.dropLast
  refine ⟨_,rfl,ho,C,dx,_,.ref hl,rfl,hA.ins,c.cl,c.held,rfl,.inl ⟨rfl,_,SqL.of hA.held⟩,hl,_,_,rfl,rfl,hA.held,qM hv,by show 2≤sizeLine;decide,fun p hp=>?_⟩
  have sp:=zg hp (.tup [.str "value",v])
  exact q p _ (SqT.of z7) (h1.same sp) (zU.a.trans (zU.of sp))
noncomputable def z4g:Deed:=fun _ _ m=>some (.go,m)
theorem sc96:zj ["hold","op","arg"] ["hold","op","arg"] (zd (top 96)):=fsM
theorem z68 (D:zm K mg "do_jump" (top 96)) (cs:Cons K mg):FN P w K mg base 1 "do_jump" ["hold","op","arg"] (zO K C z4g):=by
 refine FN.o D sc96 fun f cdv A outer s H vs Q E hr h=>?_
 obtain ⟨ho,hl,kd,sl,dx,op,arg,m,res,m',rfl,hA,hg,q⟩:=h
 obtain ⟨ga,mgo,tg⟩:=cs.go
 cases hg
 exact ⟨_,zf (zk (zA rfl mgo (v:=.ref ga) rfl)),q ga _ (tg.sq _) hA zU.refl⟩
end
theorem z14:bootBuiltins "abs"=some (.builtin "abs"):=by trivial
theorem z3X {X:Cx}:OpR X (binaryOp .FloorDiv) (rI (fun _ j=>j≠0∧j.natAbs.log2 < 9000) fun i j=>.int (i.fdiv j)):=opI fun _ _ _ _ _ _ _ hc q=>floordiv_int hc.1 q (.inl (PyProof.noPylong_of_log2 hc.2))
noncomputable def big (i:Int):Bool:=decide (1000000000000000000 < i.natAbs)
theorem z2D {j:Int} (h:big j=false):j.natAbs.log2 < 9000:=by
 have h1:¬1000000000000000000 < j.natAbs:=of_decide_eq_false h
 by_cases z:j.natAbs=0
 ·rw [z];decide
 ·have h2:=(Nat.log2_lt z (k:=64)).mpr (by lia)
  lia
noncomputable def reck (op:Str) (i j:Int):Option Int:=
 if op="add" then some (i+j) else if op="sub" then some (i - j) else if op="mul" then some (i * j) else if op="div" then (if j=0 then none else some (i.fdiv j)) else if op="rest" then (if j=0 then none else some (i.fmod j)) else none
noncomputable def z5m (x y:V):Bool:=isB x == isB y&&decide (x=y)
noncomputable def Qg (op:Str) (x y:V):Option (V × V):=
 if op="same" then some (.non,.bl (z5m x y)) else match x,y with
 | .int i,.int j=>if big i=true then none else if big j=true then none else if (op="div"∨op="rest")∧j=0 then some (.str "Zero",.non) else if op="less" then some (.non,.bl (decide (i < j)))
  else (match reck op i j with
   | some k=>if big k=true then some (.str "Big",.non) else some (.non,.int k)
   | none=>none)
 | _,_=>some (.str "Type",.non)
theorem Qs {op:Str} {x y:V} (h0:op≠"same") (h:Zj x=false∨Zj y=false):Qg op x y=some (.str "Type",.non):=by
 unfold Qg
 rw [kz h0]
 cases x with
 | int i=>
  cases y with
  | int j=>rcases h with h | h <;> cases h
  | _=>rfl
 | _=>rfl
noncomputable def z1o (op:Str) (x:V):Option (V × V):=
 if op="not" then some (.non,.bl (!z0C x)) else match x with
 | .int i=>some (.non,.int (-i))
 | _=>some (.str "Type",.non)
structure TabR (w:World) (K:ky) (mg:Str→Option Value):Prop where
 tab:∃d f1 f2 f3 f4 f5,mg "RECKONINGS"=some (.ref d)∧KTab w.params K d [("add",.ref f1),("sub",.ref f2),("mul",.ref f3),("div",.ref f4),("rest",.ref f5)]∧
  mg "sum_of"=some (.ref f1)∧mg "difference_of"=some (.ref f2)∧mg "product_of"=some (.ref f3)∧mg "quotient_of"=some (.ref f4)∧mg "rest_of"=some (.ref f5)
def spI2 (c:Int→Int→Prop) (g:Int→Int→Int):Sp:=fun vs H Q _=>∃i j,vs=[.int i,.int j]∧c i j∧Q (.int (g i j)) H
theorem jV {c:Int→Int→Prop} {g:Int→Int→Int} (vs:List V) (H:Hp) (Q:VK) (E:XK) (h:spI2 c g vs H Q E):vs.length=2:=by
 obtain ⟨i,j,rfl,_⟩:=h
 rfl
abbrev Sm (i j:Int):Prop:=big i=false∧big j=false
section
theorem sc64:zj ["first","second"] ["first","second"] (zd (top 64)):=fsM
theorem z7v (D:zm K mg "sum_of" (top 64)):FN P w K mg base 1 "sum_of" ["first","second"] (spI2 Sm (· +·)):=by
 refine FN.of D sc64 (fun _ _ _ _ _ _=>zU2 fun _ _=>rfl) jV (fun f cdv A outer s H vs Q E hr h=>?_)
 obtain ⟨i,j,rfl,hc,q⟩:=h
 exact ⟨_,zf (zk (zY jz (pv 0) (pv 1))),_,rfl,_,rfl,i,j,rfl,rfl,q⟩
theorem sc65:zj ["first","second"] ["first","second"] (zd (top 65)):=fsM
theorem z6c (D:zm K mg "difference_of" (top 65)):FN P w K mg base 1 "difference_of" ["first","second"] (spI2 Sm (· - ·)):=by
 refine FN.of D sc65 (fun _ _ _ _ _ _=>zU2 fun _ _=>rfl) jV (fun f cdv A outer s H vs Q E hr h=>?_)
 obtain ⟨i,j,rfl,hc,q⟩:=h
 exact ⟨_,zf (zk (zY z2s (pv 0) (pv 1))),_,rfl,_,rfl,i,j,rfl,rfl,q⟩
theorem sc66:zj ["first","second"] ["first","second"] (zd (top 66)):=fsM
theorem z27 {i j:Int} (h:big i=false):CMul i j:=by
 have h1:¬1000000000000000000 < i.natAbs:=of_decide_eq_false h
 exact .inl ⟨by lia,by lia⟩
theorem z5W (D:zm K mg "product_of" (top 66)):FN P w K mg base 1 "product_of" ["first","second"] (spI2 Sm (· * ·)):=by
 refine FN.of D sc66 (fun _ _ _ _ _ _=>zU2 fun _ _=>rfl) jV (fun f cdv A outer s H vs Q E hr h=>?_)
 obtain ⟨i,j,rfl,hc,q⟩:=h
 exact ⟨_,zf (zk (zY Jo (pv 0) (pv 1))),_,rfl,_,rfl,i,j,rfl,rfl,z27 hc.1,q⟩
theorem sc67:zj ["first","second"] ["first","second"] (zd (top 67)):=fsM
theorem z5U (D:zm K mg "quotient_of" (top 67)):FN P w K mg base 1 "quotient_of" ["first","second"] (spI2 (fun i j=>Sm i j∧j≠0) Int.fdiv):=by
 refine FN.of D sc67 (fun _ _ _ _ _ _=>zU2 fun _ _=>rfl) jV (fun f cdv A outer s H vs Q E hr h=>?_)
 obtain ⟨i,j,rfl,hc,q⟩:=h
 exact ⟨_,zf (zk (zY z3X (pv 0) (pv 1))),_,rfl,_,rfl,i,j,rfl,rfl,⟨hc.2,z2D hc.1.2⟩,q⟩
theorem sc68:zj ["first","second"] ["first","second"] (zd (top 68)):=fsM
theorem z5S (D:zm K mg "rest_of" (top 68)):FN P w K mg base 1 "rest_of" ["first","second"] (spI2 (fun i j=>Sm i j∧j≠0) Int.fmod):=by
 refine FN.of D sc68 (fun _ _ _ _ _ _=>zU2 fun _ _=>rfl) jV (fun f cdv A outer s H vs Q E hr h=>?_)
 obtain ⟨i,j,rfl,hc,q⟩:=h
 exact ⟨_,zf (zk (zY z5w (pv 0) (pv 1))),_,rfl,_,rfl,i,j,rfl,rfl,hc.2,q⟩
def z4N:Sp:=fun vs H Q _=>∃x y,vs=[x,y]∧Scal x∧Scal y∧Q (.bl (z5m x y)) H
theorem sc63:zj ["first","second"] ["first","second"] (zd (top 63)):=fsM
theorem z2a {x y:V} (hx:Scal x) (hy:Scal y) (h:isB x=isB y):scal x y=true:=by
 cases hx <;> cases hy <;> first | rfl | (cases h)
theorem z5Q (D:zm K mg "are_same" (top 63)) (G:Glo mg):FN P w K mg base 1 "are_same" ["first","second"] z4N:=by
 refine FN.o D sc63 fun f cdv A outer s H vs Q E hr h=>?_
 obtain ⟨x,y,rfl,hx,hy,q⟩:=h
 refine ⟨_,zf (zk (qj (qi qC (zl zy rfl G.isinstance zi (z6 (pv 0) (z6 (qQ "bool" rfl G.bool qL) z8))) (zl zy rfl G.isinstance zi (z6 (pv 1) (z6 (qQ "bool" rfl G.bool qL) z8))) (zt _))
  (qm (qi qC (pv 0) (pv 1) (zt _))))),?_⟩
 obtain ⟨t1,ty1,k1⟩:=jC (K:=K) (H:=H) hx
 obtain ⟨t2,ty2,k2⟩:=jC (K:=K) (H:=H) hy
 refine ⟨_,rfl,_,"bool",t1,_,rfl,ty1,k1,_,rfl,_,"bool",t2,_,rfl,ty2,k2,rfl,isB x == isB y,congrArg V.bl JR,?_⟩
 unfold z5m at q
 cases e:isB x == isB y with
 | true=>
  rw [e,Bool.true_and] at q
  exact iteT ⟨_,rfl,_,rfl,z2a hx hy (eq_of_beq e),q⟩
 | false=>
  rw [e,Bool.false_and] at q
  exact iteF q
def z21:Sp:=fun vs H Q _=>∃op x y r1 r2,vs=[.str op,x,y]∧Scal x∧Scal y∧Qg op x y=some (r1,r2)∧∀t H',Same H H'→H' t=some (.tup [r1,r2])→Q (.ref t) H'
theorem sc70:zj ["op","first","second","reckon","value"] ["op","first","second"] (zd (top 70)):=fsM
theorem z6r {k:Int}:decide ((1000000000000000000:Int) < (if k < 0 then -k else k))=big k:=by
 unfold big
 by_cases h:k < 0
 ·rw [kA h]
  by_cases z:(1000000000000000000:Int) < -k
  ·rw [ki z,ki (by lia)]
  ·rw [kh z,kh (by lia)]
 ·rw [kz h]
  by_cases z:(1000000000000000000:Int) < k
  ·rw [ki z,ki (by lia)]
  ·rw [kh z,kh (by lia)]
noncomputable def st66 (k:Nat):Stmt:=(zE (top 70)).getD k (.Pass ⟨0,0,0,0⟩)
noncomputable abbrev N66:List Str:=["op","first","second","reckon","value"]
noncomputable def z51 (op:Str) (i j:Int):Option (V × V):=if op="less" then some (.non,.bl (decide (i < j))) else (match reck op i j with
 | some k=>if big k=true then some (.str "Big",.non) else some (.non,.int k)
 | none=>none)
def T66:TS:=fun D σ H=>∃(op:Str) (i j:Int) (r1 r2:V),σ=[some (.str op),some (.int i),some (.int j),none,none]∧Sm i j∧z51 op i j=some (r1,r2)∧∀t H',Same H H'→H' t=some (.tup [r1,r2])→D.rt (.ref t) H'
theorem z5n {K:ky} {mg:Str→Option Value} {f1 f2 f3 f4 f5:Addr} {op:Str} {i j k:Int} (hs:Sm i j) (h:reck op i j=some k) (m1:mg "sum_of"=some (.ref f1)) (m2:mg "difference_of"=some (.ref f2)) (m3:mg "product_of"=some (.ref f3)) (m4:mg "quotient_of"=some (.ref f4)) (m5:mg "rest_of"=some (.ref f5))
  (F1:FN P w K mg base 1 "sum_of" ["first","second"] (spI2 Sm (· +·))) (F2:FN P w K mg base 1 "difference_of" ["first","second"] (spI2 Sm (· - ·))) (F3:FN P w K mg base 1 "product_of" ["first","second"] (spI2 Sm (· * ·)))
  (F4:FN P w K mg base 1 "quotient_of" ["first","second"] (spI2 (fun i j=>Sm i j∧j≠0) Int.fdiv)) (F5:FN P w K mg base 1 "rest_of" ["first","second"] (spI2 (fun i j=>Sm i j∧j≠0) Int.fmod)):
  ∃(c:Int→Int→Prop) (g:Int→Int→Int) (name:Str) (fa:Addr),FN P w K mg base 1 name ["first","second"] (spI2 c g)∧mg name=some (.ref fa)∧([("add",.ref f1),("sub",.ref f2),("mul",.ref f3),("div",.ref f4),("rest",.ref f5)]:List (Str × V)).lookup op=some (.ref fa)∧c i j∧g i j=k:=by
 unfold reck at h
 by_cases h1:op="add"
 ·rw [kA h1] at h;exact ⟨_,_,_,_,F1,m1,by rw [h1];rfl,hs,kB h⟩
 rw [kz h1] at h
 by_cases h1:op="sub"
 ·rw [kA h1] at h;exact ⟨_,_,_,_,F2,m2,by rw [h1];rfl,hs,kB h⟩
 rw [kz h1] at h
 by_cases h1:op="mul"
 ·rw [kA h1] at h;exact ⟨_,_,_,_,F3,m3,by rw [h1];rfl,hs,kB h⟩
 rw [kz h1] at h
 by_cases h1:op="div"
 ·rw [kA h1] at h
  by_cases hj:j=0
  ·rw [kA hj] at h;cases h
  ·rw [kz hj] at h;exact ⟨_,_,_,_,F4,m4,by rw [h1];rfl,⟨hs,hj⟩,kB h⟩
 rw [kz h1] at h
 by_cases h1:op="rest"
 ·rw [kA h1] at h
  by_cases hj:j=0
  ·rw [kA hj] at h;cases h
  ·rw [kz hj] at h;exact ⟨_,_,_,_,F5,m5,by rw [h1];rfl,⟨hs,hj⟩,kB h⟩
 rw [kz h1] at h
 cases h
theorem z6W {f:Addr} {cdv:Value} {A:Around} {outer:List Env} {s:Shared} {H0:Hp} {E:XK} (hr:Room 1 (A.deeper (envOfC "made_of_two" (zd (top 70)) s.heap.objs.size f cdv))) (G:Glo mg) (T:TabR w K mg)
  (F1:FN P w K mg base 1 "sum_of" ["first","second"] (spI2 Sm (· +·))) (F2:FN P w K mg base 1 "difference_of" ["first","second"] (spI2 Sm (· - ·))) (F3:FN P w K mg base 1 "product_of" ["first","second"] (spI2 Sm (· * ·)))
  (F4:FN P w K mg base 1 "quotient_of" ["first","second"] (spI2 (fun i j=>Sm i j∧j≠0) Int.fdiv)) (F5:FN P w K mg base 1 "rest_of" ["first","second"] (spI2 (fun i j=>Sm i j∧j≠0) Int.fmod)):
  PSs (cxOf CX0 P w K mg base N66 "made_of_two" (zd (top 70)) f cdv A outer s H0 E).nox [st66 3,st66 4,st66 5,st66 6,st66 7] T66:=by
 obtain ⟨d,f1,f2,f3,f4,f5,md,td,m1,m2,m3,m4,m5⟩:=T.tab
 refine PSs.imp (zb (zJ (zn qC (pv 0) zo (zt _)) (zf (zk (zB (z6 zF (z6 (qi z3W (pv 1) (pv 2) (zt _)) z8))))) zq)
  (zb (zx (i:=3) sc70.nd rfl (Or.inl rfl) (QK td rfl md (pv 0) (fun _ _=>rfl)))
  (zb (zx (i:=4) sc70.nd rfl (Or.inl rfl) (QM (pv 3) (z6 (pv 1) (z6 (pv 2) z8))))
  (zb (zJ (zn z0i (zl z13 rfl G.abs z14 (z6 (pv 4) z8)) (qt rfl G.made) (zt _)) (zf (zk (zB (z6 zo (z6 zF z8))))) zq)
  (zf (zk (zB (z6 zF (z6 (pv 4) z8))))))))) ?_
 rintro D σ H ⟨op,i,j,r1,r2,rfl,hs,hm,q⟩
 unfold z51 at hm
 refine ⟨_,rfl,rfl,decide (op="less"),congrArg V.bl jQ,?_⟩
 by_cases h0:op="less"
 ·rw [kA h0] at hm
  cases hm
  rw [ki h0]
  exact iteT ⟨_,rfl,_,rfl,_,_,rfl,rfl,by show 2≤sizeLine;decide,fun t ht=>q t _ (zg ht _) z7⟩
 rw [kz h0] at hm
 rw [kh h0]
 refine iteF ?_
 cases hk:reck op i j with
 | none=>rw [hk] at hm;cases hm
 | some k=>
  rw [hk] at hm
  dsimp only at hm
  obtain ⟨c,g,name,fa,⟨f',fd,a',b',c',d'⟩,e1,e2,e3,e4⟩:=z5n (P:=P) (w:=w) (base:=base) hs hk m1 m2 m3 m4 m5 F1 F2 F3 F4 F5
  rw [a'] at e1
  cases e1
  subst e4
  refine ⟨_,rfl,op,_,rfl,e2,fa,fd,_,_,1,rfl,b',d',hr,c',_,rfl,_,rfl,i,j,rfl,e3,?_⟩
  refine ⟨_,rfl,_,rfl,_,_,rfl,rfl,big (g i j),congrArg V.bl z6r,?_⟩
  cases b:big (g i j) with
  | true=>
   rw [b,kA rfl] at hm
   cases hm
   exact iteT ⟨by show 2≤sizeLine;decide,fun t ht=>q t _ (zg ht _) z7⟩
  | false=>
   rw [b,kz ka] at hm
   cases hm
   exact iteF ⟨_,rfl,by show 2≤sizeLine;decide,fun t ht=>q t _ (zg ht _) z7⟩
theorem z4p (D:zm K mg "made_of_two" (top 70)) (FN1:FN P w K mg base 1 "is_number" ["thing"] (sp1 Zj)) (FSm:FN P w K mg base 1 "are_same" ["first","second"] z4N) (G:Glo mg) (T:TabR w K mg)
  (F1:FN P w K mg base 1 "sum_of" ["first","second"] (spI2 Sm (· +·))) (F2:FN P w K mg base 1 "difference_of" ["first","second"] (spI2 Sm (· - ·))) (F3:FN P w K mg base 1 "product_of" ["first","second"] (spI2 Sm (· * ·)))
  (F4:FN P w K mg base 1 "quotient_of" ["first","second"] (spI2 (fun i j=>Sm i j∧j≠0) Int.fdiv)) (F5:FN P w K mg base 1 "rest_of" ["first","second"] (spI2 (fun i j=>Sm i j∧j≠0) Int.fmod)):FN P w K mg base 2 "made_of_two" ["op","first","second"] z21:=by
 refine FN.o D sc70 fun f cdv A outer s H vs Q E hr h=>?_
 obtain ⟨op,x,y,r1,r2,rfl,hx,hy,hm,q⟩:=h
 refine ⟨_,zb (zJ (zn qC (pv 0) zo (zt _)) (zf (zk (zB (z6 zF (z6 (zu FSm hr rfl (z6 (pv 1) (z6 (pv 2) z8))) z8))))) zq)
  (zb (zJ (PW.pt (jx (qw (zX (zu FN1 hr rfl (z6 (pv 1) z8)))) (j9 (qw (zX (zu FN1 hr rfl (z6 (pv 2) z8))))))) (zf (zk (zB (z6 zo (z6 zF z8))))) zq)
  (zb (zJ (PW.pt (ZV (zn qW (pv 0) (zB (z6 zo (z6 zo z8))) rfl) (jO (zn qC (pv 2) zh (zt _))))) (zf (zk (zB (z6 zo (z6 zF z8))))) zq)
  (z6W hr G T F1 F2 F3 F4 F5))),?_⟩
 refine ⟨_,rfl,rfl,decide (op="same"),congrArg V.bl jQ,?_⟩
 by_cases h0:op="same"
 ·unfold Qg at hm
  rw [kA h0] at hm
  cases hm
  rw [ki h0]
  exact iteT ⟨_,rfl,_,rfl,x,y,rfl,hx,hy,by show 2≤sizeLine;decide,fun t ht=>q t _ (zg ht _) z7⟩
 rw [kh h0]
 refine iteF ⟨_,rfl,x,rfl,hx,Zj x,rfl,?_⟩
 have typ:Qg op x y=some (.str "Type",.non)→∀σ,tTup (z06 (tC (.str "Type")) (z06 (tC .non) tNil)) σ H Q:=fun e σ=>by
  rw [hm] at e
  cases e
  exact ⟨by show 2≤sizeLine;decide,fun t ht=>q t _ (zg ht _) z7⟩
 cases hnx:Zj x with
 | false=>exact iteT (iteT (typ (Qs h0 (.inl hnx)) _))
 | true=>
  refine iteF ⟨_,rfl,y,rfl,hy,Zj y,rfl,?_⟩
  cases hny:Zj y with
  | false=>exact iteT (typ (Qs h0 (.inr hny)) _)
  | true=>
   refine iteF ?_
   clear typ
   cases hx with
   | int i=>
    cases hy with
    | int j=>
     unfold Qg at hm
     rw [kz h0] at hm
     dsimp only at hm
     cases b1:big i with
     | true=>rw [b1,kA rfl] at hm;cases hm
     | false=>
      rw [b1,kz ka] at hm
      cases b2:big j with
      | true=>rw [b2,kA rfl] at hm;cases hm
      | false=>
       rw [b2,kz ka] at hm
       refine ⟨_,rfl,by show 2≤sizeLine;decide,fun p hp=>⟨p,_,rfl,.inr (SqT.of z7),rfl,rfl,inT op ["div","rest"],rfl,?_⟩⟩
       have s1:=zg hp (.tup [.str "div",.str "rest"])
       generalize upd H p (.tup [.str "div",.str "rest"])=H1 at *
       have go:¬((op="div"∨op="rest")∧j=0)→T66 { nx:=fun _ H'=>Q .non H',rt:=Q } [some (.str op),some (.int i),some (.int j),none,none] H1:=fun z=>by
        rw [kz z] at hm
        exact ⟨op,i,j,r1,r2,rfl,⟨b1,b2⟩,hm,fun t H' s' ht=>q t H' (s1.trans s') ht⟩
       cases hin:inT op ["div","rest"] with
       | false=>
        refine iteF (iteF (go fun z=>?_))
        have:inT op ["div","rest"]=true:=Zk.mpr (by rcases z.1 with z | z <;> rw [z] <;> decide+kernel)
        rw [hin] at this
        cases this
       | true=>
        have hop:op="div"∨op="rest":=by
         have:=Zk.mp hin
         rcases kD.mp this with z | z
         ·exact .inl z
         ·exact .inr (ko.mp z)
        obtain ⟨z,hz⟩:∃z,decide (V.int j=V.int 0)=z:=⟨_,rfl⟩
        refine iteT ⟨_,rfl,rfl,z,congrArg V.bl hz,?_⟩
        cases z with
        | true=>
         have hj:j=0:=by have:=kC hz;injection this
         rw [kA ⟨hop,hj⟩] at hm
         cases hm
         exact iteT ⟨by show 2≤sizeLine;decide,fun t ht=>q t _ (s1.trans (zg ht _)) z7⟩
        | false=>
         have hj:¬j=0:=fun z=>by rw [z] at hz;cases hz
         exact iteF (go fun z=>hj z.2)
    | _=>cases hny
   | _=>cases hnx
def z22:Sp:=fun vs H Q _=>∃op x r1 r2,vs=[.str op,x]∧Scal x∧z1o op x=some (r1,r2)∧∀t H',Same H H'→H' t=some (.tup [r1,r2])→Q (.ref t) H'
theorem sc71:zj ["op","value"] ["op","value"] (zd (top 71)):=fsM
theorem z4q (D:zm K mg "made_of_one" (top 71)) (FN1:FN P w K mg base 1 "is_number" ["thing"] (sp1 Zj)) (FT:FN P w K mg base 1 "is_true" ["value"] z0G):FN P w K mg base 2 "made_of_one" ["op","value"] z22:=by
 refine FN.o D sc71 fun f cdv A outer s H vs Q E hr h=>?_
 obtain ⟨op,x,r1,r2,rfl,hx,hm,q⟩:=h
 refine ⟨_,zb (zJ (zn qC (pv 0) zo (zt _)) (zf (zk (zB (z6 zF (z6 (z0O (zu FT hr rfl (z6 (pv 1) z8))) z8))))) zq)
  (zb (zJ (qw (zX (zu FN1 hr rfl (z6 (pv 1) z8)))) (zf (zk (zB (z6 zo (z6 zF z8))))) zq)
  (zf (zk (zB (z6 zF (z6 (jP qS (pv 1)) z8)))))),?_⟩
 unfold z1o at hm
 refine ⟨_,rfl,rfl,decide (op="not"),congrArg V.bl jQ,?_⟩
 by_cases h0:op="not"
 ·rw [kA h0] at hm
  cases hm
  rw [ki h0]
  exact iteT ⟨_,rfl,x,rfl,hx,_,rfl,by show 2≤sizeLine;decide,fun t ht=>q t _ (zg ht _) z7⟩
 rw [kz h0] at hm
 rw [kh h0]
 refine iteF ⟨_,rfl,x,rfl,hx,Zj x,rfl,?_⟩
 cases hx with
 | int i=>cases hm;exact iteF ⟨_,rfl,i,rfl,by show 2≤sizeLine;decide,fun t ht=>q t _ (zg ht _) z7⟩
 | non=>cases hm;exact iteT ⟨by show 2≤sizeLine;decide,fun t ht=>q t _ (zg ht _) z7⟩
 | bl b=>cases hm;exact iteT ⟨by show 2≤sizeLine;decide,fun t ht=>q t _ (zg ht _) z7⟩
 | str z hz=>cases hm;exact iteT ⟨by show 2≤sizeLine;decide,fun t ht=>q t _ (zg ht _) z7⟩
end
noncomputable def z2V:Deed:=fun _ _ m=>match m.st.getLast? with
 | some _=>some (.next,{ m with st:=m.st.dropLast })
 | none=>none
noncomputable def z1C (st:List V) (arg:V):Option (Nat × V):=match arg with
 | .int n=>if 1≤n∧n.toNat≤st.length then (st[st.length - n.toNat]?).map fun v=>(st.length - n.toNat,v) else none
 | _=>none
noncomputable def z2W:Deed:=fun _ arg m=>match z1C m.st arg with
 | some (_,v)=>if qZ m.st.length=true then some (.next,{ m with st:=m.st++[v] }) else none
 | none=>none
noncomputable def z2R:Deed:=fun _ arg m=>match z1C m.st arg,m.st.getLast? with
 | some (j,v),some t=>some (.next,{ m with st:=(m.st.set (m.st.length - 1) v).set j t })
 | _,_=>none
noncomputable def z5E (v:V):Option Str:=match v with
 | .str z=>some (if Jz (.str z)=true then z else "Type")
 | _=>some "Type"
noncomputable def JJ:Deed:=fun _ _ m=>match m.st.getLast? with
 | some v=>if Zb v=true then (z5E v).map fun k=>(.fault k,{ m with st:=m.st.dropLast }) else none
 | none=>none
theorem z3d {st:List V} {n:Int} {j:Nat} {v:V} (h:z1C st (.int n)=some (j,v)):ixN st.length (-n)=some j∧st[j]?=some v:=by
 unfold z1C at h
 dsimp only at h
 by_cases hz:1≤n∧n.toNat≤st.length
 case neg=>rw [kz hz] at h;cases h
 rw [kA hz] at h
 cases e:st[st.length - n.toNat]? with
 | none=>rw [e] at h;cases h
 | some w=>
  rw [e] at h
  cases h
  refine ⟨?_,e⟩
  unfold ixN
  rw [kz (by lia),kA (by lia)]
  congr 1
  lia
section
variable {C:Addr}
theorem sc89:zj ["hold","op","arg"] ["hold","op","arg"] (zd (top 89)):=fsM
theorem z6a (D:zm K mg "do_drop" (top 89)) (c:jd K C) (cs:Cons K mg):FN P w K mg base 1 "do_drop" ["hold","op","arg"] (zO K C z2V):=by
 refine FN.o D sc89 fun f cdv A outer s H vs Q E hr h=>?_
 obtain ⟨ho,hl,kd,sl,dx,op,arg,m,res,m',rfl,hA,hg,q⟩:=h
 obtain ⟨na,mn,tn⟩:=cs.next
 refine ⟨_,zb (zH (jq (zC (pv 0) rfl))) (zf (zk (zA rfl mn (v:=.ref na) rfl))),?_⟩
 unfold z2V at hg
 cases hv:m.st.getLast? with
 | none=>rw [hv] at hg;cases hg
 | some v=>
  rw [hv] at hg
  cases hg
  refine ⟨_,rfl,ho,C,dx,_,.ref hl,rfl,hA.ins,c.cl,c.held,rfl,.inl ⟨rfl,_,SqL.of hA.held⟩,hl,_,_,rfl,rfl,hA.held,qM hv,?_⟩
  exact q na _ (tn.sq _) (hA.setHeld _) zU.a
theorem sc90:zj ["hold","op","arg"] ["hold","op","arg"] (zd (top 90)):=fsM
theorem z6d (D:zm K mg "do_copy" (top 90)) (c:jd K C) (cs:Cons K mg):FN P w K mg base 1 "do_copy" ["hold","op","arg"] (zO K C z2W):=by
 refine FN.o D sc90 fun f cdv A outer s H vs Q E hr h=>?_
 obtain ⟨ho,hl,kd,sl,dx,op,arg,m,res,m',rfl,hA,hg,q⟩:=h
 obtain ⟨na,mn,tn⟩:=cs.next
 refine ⟨_,zb (zH (jr (zC (pv 0) rfl) (z6 (zS zN (zC (pv 0) rfl) (jP qS (pv 2)) (fun _ _=>rfl)) z8))) (zf (zk (zA rfl mn (v:=.ref na) rfl))),?_⟩
 unfold z2W at hg
 cases hd:z1C m.st arg with
 | none=>rw [hd] at hg;cases hg
 | some jv=>
  obtain ⟨j,v⟩:=jv
  rw [hd] at hg
  dsimp only at hg
  by_cases hz:qZ m.st.length=true
  case neg=>rw [kz hz] at hg;cases hg
  rw [kA hz] at hg
  cases hg
  obtain ⟨n,rfl⟩:∃n,arg=.int n:=by
   cases arg with
   | int n=>exact ⟨n,rfl⟩
   | _=>cases hd
  obtain ⟨h1,h2⟩:=z3d hd
  have hat:atI m.st (-n)=some v:=by
   unfold atI
   rw [h1]
   exact h2
  refine ⟨_,rfl,ho,C,dx,_,.ref hl,rfl,hA.ins,c.cl,c.held,rfl,.inl ⟨rfl,_,SqL.of hA.held⟩,_,rfl,ho,C,dx,_,.ref hl,rfl,hA.ins,c.cl,c.held,rfl,_,rfl,n,rfl,hl,_,_,v,rfl,rfl,SqL.of hA.held,hat,hl,_,_,rfl,rfl,hA.held,qR hz,?_⟩
  exact q na _ (tn.sq _) (hA.setHeld _) zU.a
theorem sc91:zj ["hold","op","arg","held"] ["hold","op","arg"] (zd (top 91)):=fsM
theorem z5O (D:zm K mg "do_swap" (top 91)) (c:jd K C) (cs:Cons K mg):FN P w K mg base 1 "do_swap" ["hold","op","arg"] (zO K C z2R):=by
 refine FN.o D sc91 fun f cdv A outer s H vs Q E hr h=>?_
 obtain ⟨ho,hl,kd,sl,dx,op,arg,m,res,m',rfl,hA,hg,q⟩:=h
 obtain ⟨na,mn,tn⟩:=cs.next
 refine ⟨_,zb (zx (i:=3) sc91.nd rfl (Or.inl rfl) (zC (pv 0) rfl))
  (zb (qO (zB (z6 (zS zN (pv 3) (jP qS (pv 2)) (fun _ _=>rfl)) (z6 (zS zN (pv 3) (jP qS zh) (fun _ _=>rfl)) z8))) (qU (n:=2) rfl (zp (ZX (pv 3) (jP qS zh) jk) (zp (ZX (pv 3) (jP qS (pv 2)) jk) qh))))
  (zf (zk (zA rfl mn (v:=.ref na) rfl)))),?_⟩
 unfold z2R at hg
 cases hd:z1C m.st arg with
 | none=>rw [hd] at hg;cases hg
 | some jv=>
  obtain ⟨j,v⟩:=jv
  cases hv:m.st.getLast? with
  | none=>rw [hd,hv] at hg;cases hg
  | some t=>
   rw [hd,hv] at hg
   cases hg
   obtain ⟨n,rfl⟩:∃n,arg=.int n:=by
    cases arg with
    | int n=>exact ⟨n,rfl⟩
    | _=>cases hd
   obtain ⟨h1,h2⟩:=z3d hd
   have hat:atI m.st (-n)=some v:=by
    unfold atI
    rw [h1]
    exact h2
   have hne:0 < m.st.length:=by
    have:=(kf.mp (qM hv)).1
    lia
   have hlx:ixN m.st.length (-1)=some (m.st.length - 1):=by
    unfold ixN
    rw [kz (by decide),kA (by lia)]
    congr 1
    lia
   have hlt:atI m.st (-1)=some t:=by
    unfold atI
    rw [hlx]
    exact qM hv
   refine ⟨_,rfl,ho,C,dx,_,.ref hl,rfl,hA.ins,c.cl,c.held,rfl,?_⟩
   refine ⟨_,rfl,_,rfl,n,rfl,hl,_,_,v,rfl,rfl,SqL.of hA.held,hat,_,rfl,1,rfl,hl,_,_,t,rfl,rfl,SqL.of hA.held,hlt,by show 2≤sizeLine;decide,fun tp htp=>?_⟩
   have st:=zg htp (.tup [v,t])
   have hA1:=hA.same st
   refine ⟨tp,_,rfl,SqT.of z7,rfl,_,_,rfl,_,rfl,1,rfl,hl,_,_,m.st.length - 1,rfl,rfl,hA1.held,hlx,?_⟩
   have hA2:=hA1.setHeld (m.st.set (m.st.length - 1) v)
   refine ⟨_,_,rfl,_,rfl,_,rfl,n,rfl,hl,_,_,j,rfl,rfl,hA2.held,by rw [List.length_set];exact h1,?_⟩
   exact ⟨rfl,q na _ (tn.sq _) (hA2.setHeld _) ((zU.of st).trans (zU.a.trans zU.a))⟩
def z24:Sp:=fun vs H Q _=>∃x k,vs=[x]∧Scal x∧z5E x=some k∧Q (.str k) H
theorem sc72:zj ["value"] ["value"] (zd (top 72)):=fsM
theorem z4t (D:zm K mg "kind_raised" (top 72)) (FK:FN P w K mg base 2 "is_kind" ["thing"] (sp1 Jz)):FN P w K mg base 3 "kind_raised" ["value"] z24:=by
 refine FN.o D sc72 fun f cdv A outer s H vs Q E hr h=>?_
 obtain ⟨x,k,rfl,hx,hk,q⟩:=h
 refine ⟨_,zf (zk (qG (zX (zu FK hr rfl (z6 (pv 0) z8))) (pv 0) zo)),?_⟩
 refine ⟨_,rfl,x,rfl,hx,Jz x,rfl,?_⟩
 cases hx with
 | non=>cases hk;exact iteF q
 | bl b=>cases hk;exact iteF q
 | int i=>cases hk;exact iteF q
 | str z hz=>
  cases hk
  cases e:Jz (.str z) with
  | true=>rw [e,kA rfl] at q;exact iteT ⟨_,rfl,q⟩
  | false=>rw [e,kz ka] at q;exact iteF q
theorem z86:zj ["hold","op","arg"] ["hold","op","arg"] (zd (top 100)):=fsM
theorem z4l (D:zm K mg "do_raise" (top 100)) (c:jd K C) (FK:FN P w K mg base 3 "kind_raised" ["value"] z24):FN P w K mg base 4 "do_raise" ["hold","op","arg"] (zO K C JJ):=by
 refine FN.o D z86 fun f cdv A outer s H vs Q E hr h=>?_
 obtain ⟨ho,hl,kd,sl,dx,op,arg,m,res,m',rfl,hA,hg,q⟩:=h
 refine ⟨_,zf (zk (zB (z6 zo (z6 (zu FK hr rfl (z6 (jq (zC (pv 0) rfl)) z8)) z8)))),?_⟩
 unfold JJ at hg
 cases hv:m.st.getLast? with
 | none=>rw [hv] at hg;cases hg
 | some v=>
  rw [hv] at hg
  dsimp only at hg
  by_cases hz:Zb v=true
  case neg=>rw [kz hz] at hg;cases hg
  rw [kA hz] at hg
  cases hk:z5E v with
  | none=>rw [hk] at hg;cases hg
  | some k=>
   rw [hk] at hg
   cases hg
   have h1:=hA.setHeld m.st.dropLast
   refine ⟨_,rfl,ho,C,dx,_,.ref hl,rfl,hA.ins,c.cl,c.held,rfl,.inl ⟨rfl,_,SqL.of hA.held⟩,hl,_,_,rfl,rfl,hA.held,qM hv,v,k,rfl,Za hz,hk,by show 2≤sizeLine;decide,fun p hp=>?_⟩
   have sp:=zg hp (.tup [.str "fault",.str k])
   exact q p _ (SqT.of z7) (h1.same sp) (zU.a.trans (zU.of sp))
end
def jM (H H':Hp) (t:Addr):Prop:=∀b o,H b=some o→b≠t→H' b=some o
noncomputable def pofM (r1 r2:V) (m:Mst):Option (Res × Mst):=match r1 with
 | .non=>if qZ m.st.length=true then some (.next,{ m with st:=m.st++[r2] }) else none
 | .str k=>some (.fault k,m)
 | _=>none
noncomputable def gTwo:Deed:=fun op _ m=>match m.st.getLast? with
 | some y=>(match m.st.dropLast.getLast? with
  | some x=>if Zb x=true∧Zb y=true then (match Qg op x y with
   | some (r1,r2)=>pofM r1 r2 { m with st:=m.st.dropLast.dropLast }
   | none=>none) else none
  | none=>none)
 | none=>none
noncomputable def gOne:Deed:=fun op _ m=>match m.st.getLast? with
 | some x=>if Zb x=true then (match z1o op x with
   | some (r1,r2)=>pofM r1 r2 { m with st:=m.st.dropLast }
   | none=>none) else none
 | none=>none
section
variable {C:Addr}
def z5f (K:ky) (C:Addr):Sp:=fun vs H Q _=>∃ho hl kd sl dx m ma r1 r2 res m',vs=[.ref ho,.ref ma]∧qD H C ho hl kd sl dx m∧H ma=some (.tup [r1,r2])∧pofM r1 r2 m=some (res,m')∧
 ∀t H',SqT K H' t (resV res)→qD H' C ho hl kd sl dx m'→zU H H' hl kd sl→Q (.ref t) H'
theorem sc92:zj ["hold","made","kind","value"] ["hold","made"] (zd (top 92)):=fsM
theorem z7y (D:zm K mg "pushed_or_fault" (top 92)) (c:jd K C) (cs:Cons K mg):FN P w K mg base 1 "pushed_or_fault" ["hold","made"] (z5f K C):=by
 refine FN.o D sc92 fun f cdv A outer s H vs Q E hr h=>?_
 obtain ⟨ho,hl,kd,sl,dx,m,ma,r1,r2,res,m',rfl,hA,hma,hp,q⟩:=h
 obtain ⟨na,mn,tn⟩:=cs.next
 refine ⟨_,zb (qO (pv 1) (qU rfl (zp (zw (i:=2) sc92.nd rfl (Or.inl rfl)) (zp (zw (i:=3) sc92.nd rfl (Or.inl rfl)) qh))))
  (zb (zJ (zn Zg (pv 2) zF (zt _)) (zf (zk (zB (z6 zo (z6 (pv 2) z8))))) zq)
  (zb (zH (jr (zC (pv 0) rfl) (z6 (pv 3) z8))) (zf (zk (zA rfl mn (v:=.ref na) rfl))))),?_⟩
 refine ⟨_,rfl,ma,_,rfl,SqT.of hma,rfl,_,_,rfl,_,_,rfl,rfl,?_⟩
 unfold pofM at hp
 cases r1 with
 | non=>
  dsimp only at hp
  by_cases hz:qZ m.st.length=true
  case neg=>rw [kz hz] at hp;cases hp
  rw [kA hz] at hp
  cases hp
  refine ⟨_,rfl,rfl,false,rfl,iteF ?_⟩
  refine ⟨_,rfl,ho,C,dx,_,.ref hl,rfl,hA.ins,c.cl,c.held,rfl,.inl ⟨rfl,_,SqL.of hA.held⟩,_,rfl,hl,_,_,rfl,rfl,hA.held,qR hz,?_⟩
  exact q na _ (tn.sq _) (hA.setHeld _) zU.a
 | str k=>
  cases hp
  refine ⟨_,rfl,rfl,true,rfl,iteT ⟨_,rfl,by show 2≤sizeLine;decide,fun p hp=>?_⟩⟩
  have sp:=zg hp (.tup [.str "fault",.str k])
  exact q p _ (SqT.of z7) (hA.same sp) (zU.of sp)
 | _=>cases hp
theorem sc93:zj ["hold","op","arg","second","first"] ["hold","op","arg"] (zd (top 93)):=fsM
theorem z7u (D:zm K mg "do_two" (top 93)) (c:jd K C) (FM:FN P w K mg base 2 "made_of_two" ["op","first","second"] z21) (FP:FN P w K mg base 1 "pushed_or_fault" ["hold","made"] (z5f K C)):FN P w K mg base 3 "do_two" ["hold","op","arg"] (zO K C gTwo):=by
 refine FN.o D sc93 fun f cdv A outer s H vs Q E hr h=>?_
 obtain ⟨ho,hl,kd,sl,dx,op,arg,m,res,m',rfl,hA,hg,q⟩:=h
 refine ⟨_,zb (zx (i:=3) sc93.nd rfl (Or.inl rfl) (jq (zC (pv 0) rfl)))
  (zb (zx (i:=4) sc93.nd rfl (Or.inl rfl) (jq (zC (pv 0) rfl)))
  (zf (zk (zu FP (hr.mono (by decide)) rfl (z6 (pv 0) (z6 (zu FM hr rfl (z6 (pv 1) (z6 (pv 4) (z6 (pv 3) z8)))) z8)))))),?_⟩
 unfold gTwo at hg
 cases hv:m.st.getLast? with
 | none=>rw [hv] at hg;cases hg
 | some y=>
  rw [hv] at hg
  dsimp only at hg
  cases hv2:m.st.dropLast.getLast? with
  | none=>rw [hv2] at hg;cases hg
  | some x=>
   rw [hv2] at hg
   dsimp only at hg
   by_cases hz:Zb x=true∧Zb y=true
   case neg=>rw [kz hz] at hg;cases hg
   rw [kA hz] at hg
   cases hm:Qg op x y with
   | none=>rw [hm] at hg;cases hg
   | some r=>
    obtain ⟨r1,r2⟩:=r
    rw [hm] at hg
    dsimp only at hg
    have h1:=hA.setHeld m.st.dropLast
    have h2:=h1.setHeld m.st.dropLast.dropLast
    refine ⟨_,rfl,ho,C,dx,_,.ref hl,rfl,hA.ins,c.cl,c.held,rfl,.inl ⟨rfl,_,SqL.of hA.held⟩,hl,_,_,rfl,rfl,hA.held,qM hv,?_⟩
    refine ⟨_,rfl,ho,C,dx,_,.ref hl,rfl,h1.ins,c.cl,c.held,rfl,.inl ⟨rfl,_,SqL.of h1.held⟩,hl,_,_,rfl,rfl,h1.held,qM hv2,?_⟩
    refine ⟨_,rfl,_,rfl,_,rfl,_,rfl,op,x,y,r1,r2,rfl,Za hz.1,Za hz.2,hm,fun t H' s' ht=>?_⟩
    exact ⟨ho,hl,kd,sl,dx,_,t,r1,r2,res,m',rfl,h2.same s',ht,hg,fun t2 H2 a b r=>q t2 H2 a b ((zU.a.trans zU.a).trans ((zU.of s').trans r))⟩
theorem sc94:zj ["hold","op","arg"] ["hold","op","arg"] (zd (top 94)):=fsM
theorem z7z (D:zm K mg "do_one" (top 94)) (c:jd K C) (FM:FN P w K mg base 2 "made_of_one" ["op","value"] z22) (FP:FN P w K mg base 1 "pushed_or_fault" ["hold","made"] (z5f K C)):FN P w K mg base 3 "do_one" ["hold","op","arg"] (zO K C gOne):=by
 refine FN.o D sc94 fun f cdv A outer s H vs Q E hr h=>?_
 obtain ⟨ho,hl,kd,sl,dx,op,arg,m,res,m',rfl,hA,hg,q⟩:=h
 refine ⟨_,zf (zk (zu FP (hr.mono (by decide)) rfl (z6 (pv 0) (z6 (zu FM hr rfl (z6 (pv 1) (z6 (jq (zC (pv 0) rfl)) z8))) z8)))),?_⟩
 unfold gOne at hg
 cases hv:m.st.getLast? with
 | none=>rw [hv] at hg;cases hg
 | some x=>
  rw [hv] at hg
  dsimp only at hg
  by_cases hz:Zb x=true
  case neg=>rw [kz hz] at hg;cases hg
  rw [kA hz] at hg
  cases hm:z1o op x with
  | none=>rw [hm] at hg;cases hg
  | some r=>
   obtain ⟨r1,r2⟩:=r
   rw [hm] at hg
   dsimp only at hg
   have h1:=hA.setHeld m.st.dropLast
   refine ⟨_,rfl,_,rfl,_,rfl,ho,C,dx,_,.ref hl,rfl,hA.ins,c.cl,c.held,rfl,.inl ⟨rfl,_,SqL.of hA.held⟩,hl,_,_,rfl,rfl,hA.held,qM hv,op,x,r1,r2,rfl,Za hz,hm,fun t H' s' ht=>?_⟩
   exact ⟨ho,hl,kd,sl,dx,_,t,r1,r2,res,m',rfl,h1.same s',ht,hg,fun t2 H2 a b r=>q t2 H2 a b (zU.a.trans ((zU.of s').trans r))⟩
end
structure DAd where
 (push load quick store clear drop copy swap two one tell jump if_ or_ ret rais:Addr)
noncomputable def Z3 (a:DAd):List (Str × V):=[("push",.ref a.push),("load",.ref a.load),("quick",.ref a.quick),("store",.ref a.store),("clear",.ref a.clear),("drop",.ref a.drop),("copy",.ref a.copy),("swap",.ref a.swap),("add",.ref a.two),("sub",.ref a.two),("mul",.ref a.two),("div",.ref a.two),("rest",.ref a.two),("less",.ref a.two),("same",.ref a.two),("neg",.ref a.one),("not",.ref a.one),("tell",.ref a.tell),("jump",.ref a.jump),("iftrue",.ref a.if_),("iffalse",.ref a.if_),("ortrue",.ref a.or_),("orfalse",.ref a.or_),("return",.ref a.ret),("raise",.ref a.rais)]
structure z7I (w:World) (K:ky) (mg:Str→Option Value) (a:DAd):Prop where
 deeds:∃d,mg "DEEDS"=some (.ref d)∧KTab w.params K d (Z3 a)
 push:mg "do_push"=some (.ref a.push)
 load:mg "do_load"=some (.ref a.load)
 quick:mg "do_quick"=some (.ref a.quick)
 store:mg "do_store"=some (.ref a.store)
 clear:mg "do_clear"=some (.ref a.clear)
 tell:mg "do_tell"=some (.ref a.tell)
 if_:mg "do_if"=some (.ref a.if_)
 or_:mg "do_or"=some (.ref a.or_)
 ret:mg "do_return"=some (.ref a.ret)
 two:mg "do_two"=some (.ref a.two)
 one:mg "do_one"=some (.ref a.one)
 jump:mg "do_jump"=some (.ref a.jump)
 drop:mg "do_drop"=some (.ref a.drop)
 copy:mg "do_copy"=some (.ref a.copy)
 swap:mg "do_swap"=some (.ref a.swap)
 rais:mg "do_raise"=some (.ref a.rais)
noncomputable def z0A:List Str:=["add","sub","mul","div","rest","less","same"]
noncomputable def z0S:List Str:=["neg","not"]
noncomputable def rowM:Deed:=fun op arg m=>
 if op∈z0A then gTwo op arg m else if op∈z0S then gOne op arg m else if op="push" then z2S op arg m else if op="load" then z2U op arg m else if op="quick" then JK op arg m else if op="store" then JI op arg m else if op="clear" then JL op arg m
 else if op="tell" then z2Q op arg m else if op="iftrue" then gIf op arg m else if op="iffalse" then gIf op arg m else if op="ortrue" then gOr op arg m else if op="orfalse" then gOr op arg m else if op="return" then Q4 op arg m else if op="jump" then z4g op arg m else if op="drop" then z2V op arg m else if op="copy" then z2W op arg m else if op="swap" then z2R op arg m else if op="raise" then JJ op arg m else none
section
variable {C:Addr}
theorem z6T:zj ["hold","op","arg","deed"] ["hold","op","arg"] (zd (top 102)):=fsM
theorem z4u {ad:DAd} (D:zm K mg "do_row" (top 102)) (T:z7I w K mg ad) (F1:FN P w K mg base 1 "do_push" ["hold","op","arg"] (zO K C z2S)) (F2:FN P w K mg base 1 "do_load" ["hold","op","arg"] (zO K C z2U)) (F3:FN P w K mg base 1 "do_quick" ["hold","op","arg"] (zO K C JK))
  (F4:FN P w K mg base 1 "do_store" ["hold","op","arg"] (zO K C JI)) (F5:FN P w K mg base 1 "do_clear" ["hold","op","arg"] (zO K C JL)) (F6:FN P w K mg base 1 "do_tell" ["hold","op","arg"] (zO K C z2Q)) (F7:FN P w K mg base 2 "do_if" ["hold","op","arg"] (zO K C gIf))
  (F8:FN P w K mg base 2 "do_or" ["hold","op","arg"] (zO K C gOr)) (F9:FN P w K mg base 1 "do_return" ["hold","op","arg"] (zO K C Q4))
  (F10:FN P w K mg base 3 "do_two" ["hold","op","arg"] (zO K C gTwo)) (F11:FN P w K mg base 3 "do_one" ["hold","op","arg"] (zO K C gOne)) (F12:FN P w K mg base 1 "do_jump" ["hold","op","arg"] (zO K C z4g))
  (F13:FN P w K mg base 1 "do_drop" ["hold","op","arg"] (zO K C z2V)) (F14:FN P w K mg base 1 "do_copy" ["hold","op","arg"] (zO K C z2W)) (F15:FN P w K mg base 1 "do_swap" ["hold","op","arg"] (zO K C z2R)) (F16:FN P w K mg base 4 "do_raise" ["hold","op","arg"] (zO K C JJ)):FN P w K mg base 5 "do_row" ["hold","op","arg"] (zO K C rowM):=by
 refine FN.o D z6T fun f cdv A outer s H vs Q E hr h=>?_
 obtain ⟨ho,hl,kd,sl,dx,op,arg,m,res,m',rfl,hA,hg,q⟩:=h
 obtain ⟨d,md,td⟩:=T.deeds
 refine ⟨_,zb (zx (i:=3) z6T.nd rfl (Or.inl rfl) (QK td rfl md (pv 1) (fun _ _=>rfl))) (zf (zk (QM (pv 3) (z6 (pv 0) (z6 (pv 1) (z6 (pv 2) z8)))))),?_⟩
 suffices h:∃(g:Deed) (name:Str) (fa:Addr),FN P w K mg base 4 name ["hold","op","arg"] (zO K C g)∧mg name=some (.ref fa)∧(Z3 ad).lookup op=some (.ref fa)∧g op arg m=some (res,m') by
  obtain ⟨g,name,fa,⟨f',fd,a,b,c,d'⟩,e1,e2,e3⟩:=h
  rw [a] at e1
  cases e1
  exact ⟨_,rfl,op,_,rfl,e2,fa,fd,_,_,4,rfl,b,d',hr,c,_,rfl,_,rfl,_,rfl,ho,hl,kd,sl,dx,op,arg,m,res,m',rfl,hA,e3,q⟩
 unfold rowM at hg
 by_cases h1:op∈z0A
 ·rw [kA h1] at hg
  refine ⟨gTwo,_,_,F10.mono (by decide),T.two,?_,hg⟩
  have all:∀o∈z0A,(Z3 ad).lookup o=some (.ref ad.two):=by
   intro o ho
   unfold z0A at ho
   simp only [kD,kq,or_false] at ho
   rcases ho with h | h | h | h | h | h | h <;> (rw [h];rfl)
  exact all op h1
 rw [kz h1] at hg
 by_cases h1:op∈z0S
 ·rw [kA h1] at hg
  refine ⟨gOne,_,_,F11.mono (by decide),T.one,?_,hg⟩
  have all:∀o∈z0S,(Z3 ad).lookup o=some (.ref ad.one):=by
   intro o ho
   unfold z0S at ho
   simp only [kD,kq,or_false] at ho
   rcases ho with h | h <;> (rw [h];rfl)
  exact all op h1
 rw [kz h1] at hg
 by_cases h1:op="push"
 ·rw [kA h1] at hg;exact ⟨z2S,_,_,F1.mono (by decide),T.push,by rw [h1];rfl,hg⟩
 rw [kz h1] at hg
 by_cases h1:op="load"
 ·rw [kA h1] at hg;exact ⟨z2U,_,_,F2.mono (by decide),T.load,by rw [h1];rfl,hg⟩
 rw [kz h1] at hg
 by_cases h1:op="quick"
 ·rw [kA h1] at hg;exact ⟨JK,_,_,F3.mono (by decide),T.quick,by rw [h1];rfl,hg⟩
 rw [kz h1] at hg
 by_cases h1:op="store"
 ·rw [kA h1] at hg;exact ⟨JI,_,_,F4.mono (by decide),T.store,by rw [h1];rfl,hg⟩
 rw [kz h1] at hg
 by_cases h1:op="clear"
 ·rw [kA h1] at hg;exact ⟨JL,_,_,F5.mono (by decide),T.clear,by rw [h1];rfl,hg⟩
 rw [kz h1] at hg
 by_cases h1:op="tell"
 ·rw [kA h1] at hg;exact ⟨z2Q,_,_,F6.mono (by decide),T.tell,by rw [h1];rfl,hg⟩
 rw [kz h1] at hg
 by_cases h1:op="iftrue"
 ·rw [kA h1] at hg;exact ⟨gIf,_,_,F7.mono (by decide),T.if_,by rw [h1];rfl,hg⟩
 rw [kz h1] at hg
 by_cases h1:op="iffalse"
 ·rw [kA h1] at hg;exact ⟨gIf,_,_,F7.mono (by decide),T.if_,by rw [h1];rfl,hg⟩
 rw [kz h1] at hg
 by_cases h1:op="ortrue"
 ·rw [kA h1] at hg;exact ⟨gOr,_,_,F8.mono (by decide),T.or_,by rw [h1];rfl,hg⟩
 rw [kz h1] at hg
 by_cases h1:op="orfalse"
 ·rw [kA h1] at hg;exact ⟨gOr,_,_,F8.mono (by decide),T.or_,by rw [h1];rfl,hg⟩
 rw [kz h1] at hg
 by_cases h1:op="return"
 ·rw [kA h1] at hg;exact ⟨Q4,_,_,F9.mono (by decide),T.ret,by rw [h1];rfl,hg⟩
 rw [kz h1] at hg
 by_cases h1:op="jump"
 ·rw [kA h1] at hg;exact ⟨z4g,_,_,F12.mono (by decide),T.jump,by rw [h1];rfl,hg⟩
 rw [kz h1] at hg
 by_cases h1:op="drop"
 ·rw [kA h1] at hg;exact ⟨z2V,_,_,F13.mono (by decide),T.drop,by rw [h1];rfl,hg⟩
 rw [kz h1] at hg
 by_cases h1:op="copy"
 ·rw [kA h1] at hg;exact ⟨z2W,_,_,F14.mono (by decide),T.copy,by rw [h1];rfl,hg⟩
 rw [kz h1] at hg
 by_cases h1:op="swap"
 ·rw [kA h1] at hg;exact ⟨z2R,_,_,F15.mono (by decide),T.swap,by rw [h1];rfl,hg⟩
 rw [kz h1] at hg
 by_cases h1:op="raise"
 ·rw [kA h1] at hg;exact ⟨JJ,_,_,F16,T.rais,by rw [h1];rfl,hg⟩
 rw [kz h1] at hg
 cases hg
end
noncomputable def z3m (s:Stmt):List Stmt:=match s with
 | .ClassDef _ _ _ b _ _ _ _ _ _ _=>b
 | _=>[]
noncomputable def mW (i:Nat):Stmt:=(z3m (top 103)).getD i (.Pass ⟨0,0,0,0⟩)
noncomputable def mH (i:Nat):Stmt:=(z3m (top 83)).getD i (.Pass ⟨0,0,0,0⟩)
def MN (P:Program) (w:World) (K:ky) (mg:Str→Option Value) (base:Heap) (k:Nat) (C:Addr) (m:Str) (ps:List Str) (sp:Sp):Prop:=∃f fd,Meth K C m f∧jG K fd ps []∧FnOk P w K mg base CX0 k f fd ps sp
def HasM (K:ky) (C:Addr) (m qual:Str) (st:Stmt):Prop:=∃f fd,Fun K m qual st f fd∧Meth K C m f
def IN (P:Program) (w:World) (K:ky) (mg:Str→Option Value) (base:Heap) (k:Nat) (C:Addr) (ps:List Str) (sp:Sp):Prop:=∃f fd,Mk K C f∧jG K fd ps []∧FnOk P w K mg base CX0 k f fd ps sp
def HasI (K:ky) (C:Addr) (qual:Str) (st:Stmt):Prop:=∃f fd,Fun K "__init__" qual st f fd∧Mk K C f
section
variable {C:Addr}
theorem MN.of {m qual:Str} {st:Stmt} {N ps:List Str} {sp:Sp} {k:Nat} (D:HasM K C m qual st) (S:zj N ps (zd st))
  (hb:∀(kV doc pm:Value) (an:Option Addr) (cdv ct:Value) (us:List Value),us.length=ps.length→bindArgs (PySem.W.fnOf m qual (qx st) (zE st) (zd st) .none kV doc pm an cdv ct) ⟨us,[]⟩=pure (ps.zip us))
  (len:∀vs H Q E,sp vs H Q E→vs.length=ps.length)
  (hbody:∀(f:Addr) (cdv:Value) (A:Around) (outer:List Env) (s:Shared) (H:Hp) (vs:List V) (Q:VK) (E:XK),Room k (A.deeper (envOfC qual (zd st) s.heap.objs.size f cdv))→sp vs H Q E→
   ∃t,PSs (cxOf CX0 P w K mg base N qual (zd st) f cdv A outer s H E).nox (zE st) t∧t { nx:=fun _ H'=>Q .non H',rt:=Q } (L2.qT N vs) H):MN P w K mg base (k+1) C m ps sp:=by
 obtain ⟨f,fd,F,m⟩:=D
 exact ⟨f,fd,m,F.binds hb,F.ok S len (hbody f)⟩
theorem MN.o {m qual:Str} {st:Stmt} {N ps:List Str} {sp:Sp} {k:Nat} (D:HasM K C m qual st) (S:zj N ps (zd st))
  (hbody:∀(f:Addr) (cdv:Value) (A:Around) (outer:List Env) (s:Shared) (H:Hp) (vs:List V) (Q:VK) (E:XK),Room k (A.deeper (envOfC qual (zd st) s.heap.objs.size f cdv))→sp vs H Q E→
   ∃t,PSs (cxOf CX0 P w K mg base N qual (zd st) f cdv A outer s H E).nox (zE st) t∧t { nx:=fun _ H'=>Q .non H',rt:=Q } (L2.qT N vs) H)
  (hb:∀(kV doc pm:Value) (an:Option Addr) (cdv ct:Value) (us:List Value),us.length=ps.length→bindArgs (PySem.W.fnOf m qual (qx st) (zE st) (zd st) .none kV doc pm an cdv ct) ⟨us,[]⟩=pure (ps.zip us):=by (first | exact fun _ _ _ _ _ _=>zU1 fun _=>rfl | exact fun _ _ _ _ _ _=>zU2 fun _ _=>rfl | exact fun _ _ _ _ _ _=>zU3 fun _ _ _=>rfl | exact fun _ _ _ _ _ _=>zU4 fun _ _ _ _=>rfl | exact fun _ _ _ _ _ _=>zU5 fun _ _ _ _ _=>rfl))
  (len:∀vs H Q E,sp vs H Q E→vs.length=ps.length:=by (intro vs H Q E h;repeat (first | (obtain ⟨e,_⟩:=h;subst e;rfl) | (obtain ⟨_,h⟩:=h)))):MN P w K mg base (k+1) C m ps sp:=MN.of D S hb len hbody
theorem IN.of {qual:Str} {st:Stmt} {N ps:List Str} {sp:Sp} {k:Nat} (D:HasI K C qual st) (S:zj N ps (zd st))
  (hb:∀(kV doc pm:Value) (an:Option Addr) (cdv ct:Value) (us:List Value),us.length=ps.length→bindArgs (PySem.W.fnOf "__init__" qual (qx st) (zE st) (zd st) .none kV doc pm an cdv ct) ⟨us,[]⟩=pure (ps.zip us))
  (len:∀vs H Q E,sp vs H Q E→vs.length=ps.length)
  (hbody:∀(f:Addr) (cdv:Value) (A:Around) (outer:List Env) (s:Shared) (H:Hp) (vs:List V) (Q:VK) (E:XK),Room k (A.deeper (envOfC qual (zd st) s.heap.objs.size f cdv))→sp vs H Q E→
   ∃t,PSs (cxOf CX0 P w K mg base N qual (zd st) f cdv A outer s H E).nox (zE st) t∧t { nx:=fun _ H'=>Q .non H',rt:=Q } (L2.qT N vs) H):IN P w K mg base (k+1) C ps sp:=by
 obtain ⟨f,fd,F,m⟩:=D
 exact ⟨f,fd,m,F.binds hb,F.ok S len (hbody f)⟩
theorem IN.o {qual:Str} {st:Stmt} {N ps:List Str} {sp:Sp} {k:Nat} (D:HasI K C qual st) (S:zj N ps (zd st))
  (hbody:∀(f:Addr) (cdv:Value) (A:Around) (outer:List Env) (s:Shared) (H:Hp) (vs:List V) (Q:VK) (E:XK),Room k (A.deeper (envOfC qual (zd st) s.heap.objs.size f cdv))→sp vs H Q E→
   ∃t,PSs (cxOf CX0 P w K mg base N qual (zd st) f cdv A outer s H E).nox (zE st) t∧t { nx:=fun _ H'=>Q .non H',rt:=Q } (L2.qT N vs) H)
  (hb:∀(kV doc pm:Value) (an:Option Addr) (cdv ct:Value) (us:List Value),us.length=ps.length→bindArgs (PySem.W.fnOf "__init__" qual (qx st) (zE st) (zd st) .none kV doc pm an cdv ct) ⟨us,[]⟩=pure (ps.zip us):=by (first | exact fun _ _ _ _ _ _=>zU1 fun _=>rfl | exact fun _ _ _ _ _ _=>zU2 fun _ _=>rfl | exact fun _ _ _ _ _ _=>zU3 fun _ _ _=>rfl | exact fun _ _ _ _ _ _=>zU4 fun _ _ _ _=>rfl | exact fun _ _ _ _ _ _=>zU5 fun _ _ _ _ _=>rfl))
  (len:∀vs H Q E,sp vs H Q E→vs.length=ps.length:=by (intro vs H Q E h;repeat (first | (obtain ⟨e,_⟩:=h;subst e;rfl) | (obtain ⟨_,h⟩:=h)))):IN P w K mg base (k+1) C ps sp:=IN.of D S hb len hbody
end
section
variable {X:Cx} {k:Nat} {C:Addr} {x m:Str} {ps:List Str} {sp:Sp} {p pos apos:Pos} {o e:Expr} {es:List Expr} {ta:TE} {t:TA}
theorem z0g {pl:Sem Bool} (he:PE X o ta) (c:Cls X.K C) (F:MN X.prog X.w X.K X.mg X.base k C m ps sp) (hr:Room k X.A) (ha:PA X (e :: es) t)
  (hst:autoParam (starEach (e :: es) X.env=(false,eval e X.env) :: starEach es X.env) aR._auto_1) (hpl:autoParam ((backTo pos (starEach es X.env)).any (·.1)=false) aR._auto_1)
  (ht:autoParam (eval (.Call (.Attribute o m apos) (e :: es) [] pos) X.env=(do
   let ov ←eval o X.env
   standAt apos.atName
   let (f,first) ←holding [ov] (getMethod ov m pl)
   callWith pos f first (backTo pos (starEach (e :: es) X.env)) (backToKw pos (keywordEach [] X.env)))) aR._auto_1):
  PE X (.Call (.Attribute o m apos) (e :: es) [] pos) (z1a C m sp [] E0 ta t):=by
 obtain ⟨f,fd,hm,hb,F⟩:=F
 exact z5s he c hm F hr hb .nil z2r ha hst hpl ht
theorem Jl {pl:Sem Bool} (he:PE X o ta) (c:Cls X.K C) (F:MN X.prog X.w X.K X.mg X.base k C m ps sp) (hr:Room k X.A)
  (ht:autoParam (eval (.Call (.Attribute o m apos) [] [] pos) X.env=(do
   let ov ←eval o X.env
   standAt apos.atName
   let (f,first) ←holding [ov] (getMethod ov m pl)
   callWith pos f first (backTo pos (starEach [] X.env)) (backToKw pos (keywordEach [] X.env)))) aR._auto_1):
  PE X (.Call (.Attribute o m apos) [] [] pos) (z1a C m sp [] E0 ta tNil):=by
 obtain ⟨f,fd,hm,hb,F⟩:=F
 exact z3Q he c hm F hr hb .nil z2r ht
theorem z3R (F:IN X.prog X.w X.K X.mg X.base k C ps sp) (hr:Room (k+1) X.A) (hg:Gl X x) (hm:X.mg x=some (.ref C)) (ha:PA X (e :: es) t) (hdb:autoParam ((x == ("__debug__":Str))=false) aR._auto_2)
  (he:autoParam (starEach (e :: es) X.env=(false,eval e X.env) :: starEach es X.env) aR._auto_1) (hpl:autoParam ((backTo pos (starEach es X.env)).any (·.1)=false) aR._auto_1):
  PE X (.Call (.Name x p) (e :: es) [] pos) (z59 C sp [] E0 t):=by
 obtain ⟨f,fd,M,hb,F⟩:=F
 exact z2o M F hr hg hm hb .nil z2r ha hdb he hpl
end
section
variable {C:Addr}
theorem JX {X:Cx}:jt X (.type "dict") (fun xs H Q=>∃a kvs,xs=[V.ref a]∧Rd H a (.dK kvs)∧∀p,H p=none→Q (.ref p) (upd H p (.dK kvs))):=by
 intro pins s σ H xs us Q I r h
 obtain ⟨a,kvs,rfl,e,q⟩:=h
 obtain ⟨u,rfl,ru⟩:=ZO r
 cases ru
 exact z4C I e fun p s' hp I'=>⟨.ref p,_,I',rfl,q p hp⟩
def z4Q (C:Addr):Sp:=fun vs H Q _=>∃x d dx kvs,vs=[.ref x,.ref d]∧H x=some (.ins C dx [])∧H d=some (.dK kvs)∧
 ∀hl kd sl H',H hl=none→H kd=none→H sl=none→qD H' C x hl kd sl dx ⟨[],kvs,[]⟩→(∀b o,H b=some o→b≠x→H' b=some o)→Q .non H'
theorem scH:zj ["self","names"] ["self","names"] (zd (mH 0)):=fsM
theorem z5H (D:HasI K C "Hold.__init__" (mH 0)) (c:jd K C) (G:Glo mg):IN P w K mg base 1 C ["self","names"] (z4Q C):=by
 refine IN.o D scH fun f cdv A outer s H vs Q E hr h=>?_
 obtain ⟨x,d,dx,kvs,rfl,hx,hd,q⟩:=h
 refine ⟨_,zb (qN (pv 0) (qe z8) rfl) (zb (qN (pv 0) (jg JX rfl G.dict qY (z6 (pv 1) z8)) rfl) (zf (qN (pv 0) (qe z8) rfl))),?_⟩
 refine ⟨by show 0≤sizeLine;decide,fun hl hhl=>?_⟩
 have nxl:x≠hl:=zc hx hhl
 have ndl:d≠hl:=zc hd hhl
 have ndx:d≠x:=zD hd hx nofun
 refine ⟨_,rfl,x,C,dx,[],rfl,by rw [ze nxl];exact hx,c.cl,c.held,by decide,?_⟩
 refine ⟨_,rfl,d,kvs,rfl,.inl (by rw [ze ndx,ze ndl];exact hd),fun kd hkd=>?_⟩
 have nkx:kd≠x:=fun z=>by rw [z,z7] at hkd;cases hkd
 have hkd1:(upd H hl (.lst [])) kd=none:=by rw [ze nkx] at hkd;exact hkd
 have nkl:kd≠hl:=fun z=>by rw [z,z7] at hkd1;cases hkd1
 have hkd0:H kd=none:=by rw [ze nkl] at hkd1;exact hkd1
 refine ⟨_,rfl,x,C,dx,_,rfl,by rw [ze nkx.symm];exact z7,c.cl,c.known,(by show 1 < 1000;decide),?_⟩
 refine ⟨by show 0≤sizeLine;decide,fun sl hsl=>?_⟩
 have nsx:sl≠x:=fun z=>by rw [z,z7] at hsl;cases hsl
 have hsl1:=hsl
 rw [ze nsx] at hsl1
 have nsk:sl≠kd:=fun z=>by rw [z,z7] at hsl1;cases hsl1
 rw [ze nsk,ze nsx] at hsl1
 have nsl:sl≠hl:=fun z=>by rw [z,z7] at hsl1;cases hsl1
 rw [ze nsl] at hsl1
 refine ⟨_,rfl,x,C,dx,_,rfl,by rw [ze nsx.symm];exact z7,c.cl,c.said,(by show 2 < 1000;decide),?_⟩
 refine q hl kd sl _ hhl hkd0 hsl1 ⟨z7,?_,?_,?_,nsl.symm⟩ fun b o e hb=>?_
 ·rw [ze nxl.symm,ze nsl.symm,ze nxl.symm,ze nkl.symm,ze nxl.symm];exact z7
 ·rw [ze nkx,ze nsk.symm,ze nkx];exact z7
 ·rw [ze nsx];exact z7
 ·rw [ze hb,ze (zc e hsl1),ze hb,ze (zc e hkd0),ze hb,ze (zc e hhl)];exact e
end
structure ZD (K:ky) (C:Addr):Prop where
 cl:Cls K C
 rows:qP K C "rows"
 goals:qP K C "goals"
 hold:qP K C "hold"
 wards:qP K C "wards"
 passed:qP K C "passed"
 ending:qP K C "ending"
 here:qP K C "here"
structure WAd where
 (wk dw rl gd ho wl pl hl kd sl dx:Addr)
noncomputable def z1s:Option Nat→V
 | none=>.non
 | some p=>.int (p:Nat)
noncomputable def wfs (a:WAd) (ea:V) (here:V):List (Str × V):=[("rows",.ref a.rl),("goals",.ref a.gd),("hold",.ref a.ho),("wards",.ref a.wl),("passed",.ref a.pl),("ending",ea),("here",here)]
structure zQ (K:ky) (H0 H:Hp) (CW CH:Addr) (a:WAd) (rs:List Row) (m:Mst) (gs:List Gd) (pas:List Nat) (e:List V) (here:Option Nat):Prop where
 same:Same H0 H
 f1:H0 a.wk=none
 f2:H0 a.pl=none
 f3:H0 a.hl=none
 f4:H0 a.kd=none
 f5:H0 a.sl=none
 f6:H0 a.wl=none
 f7:H0 a.ho=none
 ins:∃ea,H a.wk=some (.ins CW a.dw (wfs a (.ref ea) (z1s here)))∧SqT K H ea e
 rows:∃as,H a.rl=some (.lst (as.map V.ref))∧zL H as rs
 goals:∃kvs,H a.gd=some (.dK kvs)∧Zr kvs rs
 hold:qD H CH a.ho a.hl a.kd a.sl a.dx m
 wards:∃gas,H a.wl=some (.lst (gas.map V.ref))∧GsIn H gas gs
 passed:H a.pl=some (.lst (pas.map fun p=>V.int (p:Nat)))
 n1:a.rl≠a.hl
 n2:a.rl≠a.sl
 n3:a.rl≠a.pl
 n4:a.wl≠a.hl
 n5:a.wl≠a.sl
 n6:a.wl≠a.pl
 n7:a.pl≠a.hl
 n8:a.pl≠a.sl
 n9:a.gd≠a.kd
 n10:a.wk≠a.ho
 n11:a.rl≠a.wl
section
variable {K:ky} {H0 H H':Hp} {CW CH:Addr} {a:WAd} {rs:List Row} {m m':Mst} {gs gs':List Gd} {pas:List Nat} {e e':List V} {here here':Option Nat}
theorem zQ.same' (W:zQ K H0 H CW CH a rs m gs pas e here) (s:Same H H'):zQ K H0 H' CW CH a rs m gs pas e here:=by
 obtain ⟨ea,i1,i2⟩:=W.ins
 obtain ⟨as,r1,r2⟩:=W.rows
 obtain ⟨kv,g1,g2⟩:=W.goals
 obtain ⟨gas,w1,w2⟩:=W.wards
 exact ⟨W.same.trans s,W.f1,W.f2,W.f3,W.f4,W.f5,W.f6,W.f7,⟨ea,s _ _ i1,qJ s i2⟩,⟨as,s _ _ r1,r2.same s⟩,⟨kv,s _ _ g1,g2⟩,W.hold.same s,⟨gas,s _ _ w1,w2.keep (qd.of s)⟩,s _ _ W.passed,W.n1,W.n2,W.n3,W.n4,W.n5,W.n6,W.n7,W.n8,W.n9,W.n10,W.n11⟩
theorem zQ.fields (W:zQ K H0 H CW CH a rs m gs pas e here) {ea:Addr} (he:SqT K H ea e'):zQ K H0 (upd H a.wk (.ins CW a.dw (wfs a (.ref ea) (z1s here')))) CW CH a rs m gs pas e' here':=by
 obtain ⟨ea0,i1,i2⟩:=W.ins
 obtain ⟨as,r1,r2⟩:=W.rows
 obtain ⟨kv,g1,g2⟩:=W.goals
 obtain ⟨gas,w1,w2⟩:=W.wards
 have kt:=qd.upd (o:=.ins CW a.dw (wfs a (.ref ea) (z1s here'))) i1 rfl
 refine ⟨fun b o h=>by rw [ze (zc h W.f1)];exact W.same _ _ h,W.f1,W.f2,W.f3,W.f4,W.f5,W.f6,W.f7,⟨ea,z7,qK kt he⟩,⟨as,by rw [ze (zD r1 i1 nofun)];exact r1,r2.keep fun b xs h=>kt _ _ h rfl⟩,
  ⟨kv,by rw [ze (zD g1 i1 nofun)];exact g1,g2⟩,⟨by rw [ze W.n10.symm];exact W.hold.ins,by rw [ze (zD W.hold.held i1 nofun)];exact W.hold.held,by rw [ze (zD W.hold.known i1 nofun)];exact W.hold.known,by rw [ze (zD W.hold.said i1 nofun)];exact W.hold.said,W.hold.ne⟩,
  ⟨gas,by rw [ze (zD w1 i1 nofun)];exact w1,w2.keep kt⟩,by rw [ze (zD W.passed i1 nofun)];exact W.passed,W.n1,W.n2,W.n3,W.n4,W.n5,W.n6,W.n7,W.n8,W.n9,W.n10,W.n11⟩
theorem zQ.pass (W:zQ K H0 H CW CH a rs m gs pas e here) (p:Nat):zQ K H0 (upd H a.pl (.lst ((pas.map fun p=>V.int (p:Nat))++[.int (p:Nat)]))) CW CH a rs m gs (pas++[p]) e here:=by
 obtain ⟨ea,i1,i2⟩:=W.ins
 obtain ⟨as,r1,r2⟩:=W.rows
 obtain ⟨kv,g1,g2⟩:=W.goals
 obtain ⟨gas,w1,w2⟩:=W.wards
 have kt:=qd.upd (o:=.lst ((pas.map fun p=>V.int (p:Nat))++[.int (p:Nat)])) W.passed rfl
 refine ⟨fun b o h=>by rw [ze (zc h W.f2)];exact W.same _ _ h,W.f1,W.f2,W.f3,W.f4,W.f5,W.f6,W.f7,⟨ea,by rw [ze (zD i1 W.passed nofun)];exact i1,qK kt i2⟩,⟨as,by rw [ze W.n3];exact r1,r2.keep fun b xs h=>kt _ _ h rfl⟩,
  ⟨kv,by rw [ze (zD g1 W.passed nofun)];exact g1,g2⟩,⟨by rw [ze (zD W.hold.ins W.passed nofun)];exact W.hold.ins,by rw [ze W.n7.symm];exact W.hold.held,by rw [ze (zD W.hold.known W.passed nofun)];exact W.hold.known,by rw [ze W.n8.symm];exact W.hold.said,W.hold.ne⟩,
  ⟨gas,by rw [ze W.n6];exact w1,w2.keep kt⟩,by rw [z7,kJ];rfl,W.n1,W.n2,W.n3,W.n4,W.n5,W.n6,W.n7,W.n8,W.n9,W.n10,W.n11⟩
theorem zQ.deed (W:zQ K H0 H CW CH a rs m gs pas e here) (hA:qD H' CH a.ho a.hl a.kd a.sl a.dx m') (r:zU H H' a.hl a.kd a.sl):zQ K H0 H' CW CH a rs m' gs pas e here:=by
 obtain ⟨ea,i1,i2⟩:=W.ins
 obtain ⟨as,r1,r2⟩:=W.rows
 obtain ⟨kv,g1,g2⟩:=W.goals
 obtain ⟨gas,w1,w2⟩:=W.wards
 have kt:qd H H':=fun b o h t=>r b o h (fun z=>by rw [z,W.hold.held] at h;cases h;cases t) (fun z=>by rw [z,W.hold.known] at h;cases h;cases t) (fun z=>by rw [z,W.hold.said] at h;cases h;cases t)
 refine ⟨fun b o h=>r b o (W.same _ _ h) (zc h W.f3) (zc h W.f4) (zc h W.f5),W.f1,W.f2,W.f3,W.f4,W.f5,W.f6,W.f7,
  ⟨ea,r _ _ i1 (zD i1 W.hold.held nofun) (zD i1 W.hold.known nofun) (zD i1 W.hold.said nofun),qK kt i2⟩,⟨as,r _ _ r1 W.n1 (zD r1 W.hold.known nofun) W.n2,r2.keep fun b xs h=>kt _ _ h rfl⟩,
  ⟨kv,r _ _ g1 (zD g1 W.hold.held nofun) W.n9 (zD g1 W.hold.said nofun),g2⟩,hA,⟨gas,r _ _ w1 W.n4 (zD w1 W.hold.known nofun) W.n5,w2.keep kt⟩,r _ _ W.passed W.n7 (zD W.passed W.hold.known nofun) W.n8,
  W.n1,W.n2,W.n3,W.n4,W.n5,W.n6,W.n7,W.n8,W.n9,W.n10,W.n11⟩
theorem zQ.ward (W:zQ K H0 H CW CH a rs m gs pas e here) (k:jM H H' a.wl) {gas':List Addr} (h1:H' a.wl=some (.lst (gas'.map V.ref))) (h2:GsIn H' gas' gs'):zQ K H0 H' CW CH a rs m gs' pas e here:=by
 obtain ⟨ea,i1,i2⟩:=W.ins
 obtain ⟨as,r1,r2⟩:=W.rows
 obtain ⟨kv,g1,g2⟩:=W.goals
 obtain ⟨gas,w1,w2⟩:=W.wards
 have kt:qd H H':=fun b o h t=>k b o h (fun z=>by rw [z,w1] at h;cases h;cases t)
 exact ⟨fun b o h=>k b o (W.same _ _ h) (zc h W.f6),W.f1,W.f2,W.f3,W.f4,W.f5,W.f6,W.f7,⟨ea,k _ _ i1 (zD i1 w1 nofun),qK kt i2⟩,⟨as,k _ _ r1 W.n11,r2.keep fun b xs h=>kt _ _ h rfl⟩,
  ⟨kv,k _ _ g1 (zD g1 w1 nofun),g2⟩,⟨k _ _ W.hold.ins (zD W.hold.ins w1 nofun),k _ _ W.hold.held W.n4.symm,k _ _ W.hold.known (zD W.hold.known w1 nofun),k _ _ W.hold.said W.n5.symm,W.hold.ne⟩,⟨gas',h1,h2⟩,k _ _ W.passed W.n6.symm,
  W.n1,W.n2,W.n3,W.n4,W.n5,W.n6,W.n7,W.n8,W.n9,W.n10,W.n11⟩
theorem zQ.stack (W:zQ K H0 H CW CH a rs m gs pas e here) {p:Addr} {xs:List V} (hp:H p=some (.lst xs)) (fp:H0 p=none) (q1:a.rl≠p) (q2:a.wl≠p) (q3:a.pl≠p) (q4:p≠a.sl):
  zQ K H0 (upd H a.ho (.ins CH a.dx [("held",.ref p),("known",.ref a.kd),("said",.ref a.sl)])) CW CH { a with hl:=p } rs { m with st:=xs } gs pas e here:=by
 obtain ⟨ea,i1,i2⟩:=W.ins
 obtain ⟨as,r1,r2⟩:=W.rows
 obtain ⟨kv,g1,g2⟩:=W.goals
 obtain ⟨gas,w1,w2⟩:=W.wards
 have kt:=qd.upd (o:=.ins CH a.dx [("held",.ref p),("known",.ref a.kd),("said",.ref a.sl)]) W.hold.ins rfl
 exact ⟨fun b o h=>by rw [ze (zc h W.f7)];exact W.same _ _ h,W.f1,W.f2,fp,W.f4,W.f5,W.f6,W.f7,⟨ea,by rw [ze W.n10];exact i1,qK kt i2⟩,⟨as,by rw [ze (zD r1 W.hold.ins nofun)];exact r1,r2.keep fun b xs h=>kt _ _ h rfl⟩,
  ⟨kv,by rw [ze (zD g1 W.hold.ins nofun)];exact g1,g2⟩,⟨z7,by rw [ze (zD hp W.hold.ins nofun)];exact hp,by rw [ze (zD W.hold.known W.hold.ins nofun)];exact W.hold.known,by rw [ze (zD W.hold.said W.hold.ins nofun)];exact W.hold.said,q4⟩,
  ⟨gas,by rw [ze (zD w1 W.hold.ins nofun)];exact w1,w2.keep kt⟩,by rw [ze (zD W.passed W.hold.ins nofun)];exact W.passed,q1,W.n2,W.n3,q2,W.n5,W.n6,q3,W.n8,W.n9,W.n10,W.n11⟩
end
noncomputable def j4 (rs:List Row) (d:Nat):Nat→Nat→List Gd→Option (Nat × List Gd)
 | 0,_,_=>none
 | n+1,p,gs=>match rs[p]? with
  | some r=>if r.op="label" then j4 rs d n (p+1) gs
   else if r.op="try" then (match r.arg with | .int k=>if qZ gs.length=true then j4 rs d n (p+1) (gs++[(k,(d:Int))]) else none | _=>none)
   else if r.op="endtry" then (if gs=[] then none else j4 rs d n (p+1) gs.dropLast)
   else some (p,gs)
  | none=>none
noncomputable def z28:List Str:=["label","try","endtry"]
section
variable {CW CH:Addr}
def Jd (K:ky) (CW CH:Addr):Sp:=fun vs H Q _=>∃(wk dw rl wl ho dx hl:Addr) (fs hfs:List (Str × V)) (as gas:List Addr) (rs:List Row) (st:List V) (gs:List Gd) (p n p':Nat) (gs':List Gd),vs=[.ref wk,.int (p:Nat)]∧H wk=some (.ins CW dw fs)∧fs.lookup ("rows":Str)=some (V.ref rl)∧fs.lookup ("wards":Str)=some (V.ref wl)∧fs.lookup ("hold":Str)=some (V.ref ho)∧
 H ho=some (.ins CH dx hfs)∧hfs.lookup ("held":Str)=some (V.ref hl)∧H hl=some (.lst st)∧H rl=some (.lst (as.map V.ref))∧zL H as rs∧H wl=some (.lst (gas.map V.ref))∧GsIn H gas gs∧rl≠wl∧hl≠wl∧j4 rs st.length n p gs=some (p',gs')∧
 ∀gas' H',jM H H' wl→H' wl=some (.lst (gas'.map V.ref))→GsIn H' gas' gs'→Q (.int (p':Nat)) H'
theorem scW1:zj ["self","place","op","arg"] ["self","place"] (zd (mW 1)):=fsM
theorem z53 {H:Hp} {gas:List Addr} {gs:List Gd} (h:GsIn H gas gs) (hne:gs≠[]):∃bs a g,gas=bs++[a]∧gs.getLast?=some g∧GsIn H bs gs.dropLast∧H a=some (.tup [.int g.1,.int g.2]):=by
 rcases h.last with ⟨_,e2⟩ | ⟨bs,a,g,e1,e2,e3⟩
 ·exact absurd e2 hne
 ·have hd:=h.dropLast
  rw [e1,List.dropLast_concat] at hd
  exact ⟨bs,a,g,e1,e2,hd,e3⟩
theorem z7h (D:HasM K CW "come_to" "Walk.come_to" (mW 1)) (c:ZD K CW) (ch:jd K CH) (G:Glo mg):MN P w K mg base 1 CW "come_to" ["self","place"] (Jd K CW CH):=by
 refine MN.o D scW1 fun f cdv A outer s H vs Q E hr h=>?_
 obtain ⟨wk,dw,rl,wl,ho,dx,hl,fs,hfs,as,gas,rs,st,gs,p,n,p',gs',rfl,i1,fr,fw,fh,j1,fl,hst,r1,r2,w1,w2,nrw,nlw,hcm,q⟩:=h
 refine ⟨_,zb (Ji (i:=2) (j:=3) rfl scW1.nd rfl rfl (by decide) rfl rfl (z6 (zS qp (zS zN (zC (pv 0) rfl) (pv 1) (fun _ _=>rfl)) zh (fun _ _=>rfl)) (z6 (zS qp (zS zN (zC (pv 0) rfl) (pv 1) (fun _ _=>rfl)) zh (fun _ _=>rfl)) z8)) rfl)
  (zb (ZJ PassesOwn.never (zn qW (pv 2) (zB (z6 zo (z6 zo (z6 zo z8)))) rfl)
   (zb (zJ (zn qC (pv 2) zo (zt _)) (zf (zH (jr (zC (pv 0) rfl) (z6 (zB (z6 (pv 3) (z6 (zl qb rfl G.len zR (z6 (zC (zC (pv 0) rfl) rfl) z8)) z8))) z8))))
    (zf (zJ (zn qC (pv 2) zo (zt _)) (zf (zH (jq (zC (pv 0) rfl)))) zq)))
   (zb (z6Z (i:=1) scW1.nd rfl (Or.inl rfl) zh z7p)
   (zf (Ji (i:=2) (j:=3) rfl scW1.nd rfl rfl (by decide) rfl rfl (z6 (zS qp (zS zN (zC (pv 0) rfl) (pv 1) (fun _ _=>rfl)) zh (fun _ _=>rfl)) (z6 (zS qp (zS zN (zC (pv 0) rfl) (pv 1) (fun _ _=>rfl)) zh (fun _ _=>rfl)) z8)) rfl)))))
  (zf (zk (pv 1)))),?_⟩
 have row:∀{p n gs p' gs'} {H2:Hp},j4 rs st.length n p gs=some (p',gs')→jM H H2 wl→∃r ra,rs[p]?=some r∧(as.map V.ref)[p]?=some (V.ref ra)∧H2 ra=some (.tup (tupV r)):=fun {p n gs p' gs' H2} h k2=>by
  cases n with
  | zero=>cases h
  | succ n=>
   unfold j4 at h
   cases hr:rs[p]? with
   | none=>rw [hr] at h;cases h
   | some r=>
    obtain ⟨ra,e1,e2⟩:=r2.get' hr
    exact ⟨r,ra,rfl,e1,k2 _ _ e2 (zD e2 w1 nofun)⟩
 obtain ⟨r,ra,hrp,hra,har⟩:=row hcm (fun _ _ e _=>e)
 refine ⟨_,rfl,wk,CW,dw,_,.ref rl,rfl,i1,c.cl,c.rows,fr,_,rfl,rl,_,_,_,rfl,rfl,SqL.of r1,zr hra,ra,_,_,_,rfl,rfl,SqT.of har,zr (j:=0) rfl,
  _,rfl,wk,CW,dw,_,.ref rl,rfl,i1,c.cl,c.rows,fr,_,rfl,rl,_,_,_,rfl,rfl,SqL.of r1,zr hra,ra,_,_,_,rfl,rfl,SqT.of har,zr (j:=1) rfl,_,_,rfl,?_⟩
 refine ⟨fun k σ H2=>∃p r gs gas,σ=[some (.ref wk),some (.int (p:Nat)),some (.str r.op),some r.arg]∧j4 rs st.length k p gs=some (p',gs')∧rs[p]?=some r∧jM H H2 wl∧H2 wl=some (.lst (gas.map V.ref))∧GsIn H2 gas gs,⟨n,p,r,gs,gas,rfl,hcm,hrp,fun _ _ e _=>e,w1,w2⟩,?_⟩
 clear hrp hra har hcm w2
 rintro k σ H2 ⟨p,r,gs,gas2,rfl,hcm,hrp,k2,v1,v2⟩
 refine ⟨_,rfl,by show 3≤sizeLine;decide,fun t ht=>?_⟩
 have s3:=zg ht (.tup [.str "label",.str "try",.str "endtry"])
 have k3:jM H (upd H2 t (.tup [.str "label",.str "try",.str "endtry"])) wl:=fun b o e h=>s3 _ _ (k2 b o e h)
 have v1':=s3 _ _ v1
 have v2':=v2.same s3
 refine ⟨t,_,rfl,.inr (SqT.of z7),rfl,rfl,inT r.op z28,rfl,?_⟩
 generalize upd H2 t (.tup [.str "label",.str "try",.str "endtry"])=H3 at *
 clear s3 k2 v1 v2 ht
 cases k with
 | zero=>cases hcm
 | succ k=>
  unfold j4 at hcm
  rw [hrp] at hcm
  dsimp only at hcm
  refine ite2 (fun cc=>?_) (fun cc=>?_)
  ·have cc:inT r.op z28=true:=cc
   rw [Zk] at cc
   refine ⟨fun σ' H'=>∃p r gs gas,σ'=[some (.ref wk),some (.int (p:Nat)),some (.str r.op),some r.arg]∧j4 rs st.length k p gs=some (p',gs')∧rs[p]?=some r∧jM H H' wl∧H' wl=some (.lst (gas.map V.ref))∧GsIn H' gas gs,fun σ' H' h=>⟨k,ya _,h⟩,?_⟩
   have i1':=k3 _ _ i1 (zD i1 w1 nofun)
   have j1':=k3 _ _ j1 (zD j1 w1 nofun)
   have hst':=k3 _ _ hst nlw
   have read:∀{gs2:List Gd} {gas3:List Addr} {H4:Hp},j4 rs st.length k (p+1) gs2=some (p',gs')→jM H H4 wl→H4 wl=some (.lst (gas3.map V.ref))→GsIn H4 gas3 gs2→
     ∃r' ra',rs[p+1]?=some r'∧(as.map V.ref)[p+1]?=some (V.ref ra')∧H4 ra'=some (.tup (tupV r'))∧H4 wk=some (.ins CW dw fs)∧H4 rl=some (.lst (as.map V.ref)):=fun h k4 _ _=>by
    obtain ⟨r',ra',a1,a2,a3⟩:=row h k4
    exact ⟨r',ra',a1,a2,a3,k4 _ _ i1 (zD i1 w1 nofun),k4 _ _ r1 nrw⟩
   refine ⟨_,rfl,rfl,decide (r.op="try"),congrArg V.bl jQ,?_⟩
   by_cases h2:r.op="try"
   ·have n1:¬r.op="label":=by rw [h2];decide+kernel
    rw [kz n1,kA h2] at hcm
    rw [ki h2]
    cases ha:r.arg with
    | int mk=>
     rw [ha] at hcm
     dsimp only at hcm
     by_cases hz:qZ gs.length=true
     case neg=>rw [kz hz] at hcm;cases hcm
     rw [kA hz] at hcm
     refine iteT ⟨_,rfl,wk,CW,dw,_,.ref wl,rfl,i1',c.cl,c.wards,fw,.inl ⟨rfl,_,SqL.of v1'⟩,_,rfl,_,rfl,wk,CW,dw,_,.ref ho,rfl,i1',c.cl,c.hold,fh,ho,CH,dx,_,.ref hl,rfl,j1',ch.cl,ch.held,fl,hl,_,rfl,.inl (SqL.of hst'),by show 2≤sizeLine;decide,fun ga hga=>?_⟩
     have sg:=zg hga (.tup [.int mk,.int (st.length:Nat)])
     have hgl:gas2.length=gs.length:=v2'.length
     refine ⟨wl,_,_,rfl,rfl,sg _ _ v1',by rw [kj,hgl];exact qR hz,?_⟩
     have k4:jM H (upd (upd H3 ga (.tup [.int mk,.int (st.length:Nat)])) wl (.lst (gas2.map V.ref++[.ref ga]))) wl:=fun b o e h=>by rw [ze h];exact sg _ _ (k3 b o e h)
     have v3:(upd (upd H3 ga (.tup [.int mk,.int (st.length:Nat)])) wl (.lst (gas2.map V.ref++[.ref ga]))) wl=some (.lst ((gas2++[ga]).map V.ref)):=by rw [z7,kJ];rfl
     have v4:GsIn (upd (upd H3 ga (.tup [.int mk,.int (st.length:Nat)])) wl (.lst (gas2.map V.ref++[.ref ga]))) (gas2++[ga]) (gs++[(mk,(st.length:Int))]):=by
      have kt:qd (upd H3 ga (.tup [.int mk,.int (st.length:Nat)])) (upd (upd H3 ga (.tup [.int mk,.int (st.length:Nat)])) wl (.lst (gas2.map V.ref++[.ref ga]))):=qd.upd (sg _ _ v1') rfl
      exact ((v2'.same sg).append (.cons z7 .nil)).keep kt
     generalize upd (upd H3 ga (.tup [.int mk,.int (st.length:Nat)])) wl (.lst (gas2.map V.ref++[.ref ga]))=H4 at *
     obtain ⟨r',ra',hrp',hra',har',i4,l4⟩:=read hcm k4 v3 v4
     refine ⟨_,rfl,_,_,rfl,rfl,?_⟩
     refine ⟨_,rfl,wk,CW,dw,_,.ref rl,rfl,i4,c.cl,c.rows,fr,_,rfl,rl,_,_,_,rfl,rfl,SqL.of l4,zr hra',ra',_,_,_,rfl,rfl,SqT.of har',zr (j:=0) rfl,
      _,rfl,wk,CW,dw,_,.ref rl,rfl,i4,c.cl,c.rows,fr,_,rfl,rl,_,_,_,rfl,rfl,SqL.of l4,zr hra',ra',_,_,_,rfl,rfl,SqT.of har',zr (j:=1) rfl,_,_,rfl,?_⟩
     exact ⟨p+1,r',_,_,rfl,hcm,hrp',k4,v3,v4⟩
    | _=>rw [ha] at hcm;cases hcm
   ·rw [kh h2]
    refine iteF ⟨_,rfl,rfl,decide (r.op="endtry"),congrArg V.bl jQ,?_⟩
    by_cases h3:r.op="endtry"
    ·have n1:¬r.op="label":=by rw [h3];decide+kernel
     rw [kz n1,kz h2,kA h3] at hcm
     rw [ki h3]
     by_cases hg:gs=[]
     ·rw [kA hg] at hcm;cases hcm
     rw [kz hg] at hcm
     obtain ⟨bs,ga,g,e1,e2,e3,e4⟩:=z53 v2' hg
     subst e1
     have hlast:((bs++[ga]).map V.ref)[((bs++[ga]).map V.ref).length - 1]?=some (V.ref ga):=by rw [←List.getLast?_eq_getElem?,kJ];simp
     refine iteT ⟨_,rfl,wk,CW,dw,_,.ref wl,rfl,i1',c.cl,c.wards,fw,.inl ⟨rfl,_,SqL.of v1'⟩,wl,_,_,rfl,rfl,v1',hlast,?_⟩
     have ed:((bs++[ga]).map V.ref).dropLast=bs.map V.ref:=by rw [kJ];simp
     rw [ed]
     have k4:jM H (upd H3 wl (.lst (bs.map V.ref))) wl:=fun b o e h=>by rw [ze h];exact k3 b o e h
     have v3:(upd H3 wl (.lst (bs.map V.ref))) wl=some (.lst (bs.map V.ref)):=z7
     have v4:GsIn (upd H3 wl (.lst (bs.map V.ref))) bs gs.dropLast:=e3.keep (qd.upd v1' rfl)
     generalize upd H3 wl (.lst (bs.map V.ref))=H4 at *
     obtain ⟨r',ra',hrp',hra',har',i4,l4⟩:=read hcm k4 v3 v4
     refine ⟨_,rfl,_,_,rfl,rfl,?_⟩
     refine ⟨_,rfl,wk,CW,dw,_,.ref rl,rfl,i4,c.cl,c.rows,fr,_,rfl,rl,_,_,_,rfl,rfl,SqL.of l4,zr hra',ra',_,_,_,rfl,rfl,SqT.of har',zr (j:=0) rfl,
      _,rfl,wk,CW,dw,_,.ref rl,rfl,i4,c.cl,c.rows,fr,_,rfl,rl,_,_,_,rfl,rfl,SqL.of l4,zr hra',ra',_,_,_,rfl,rfl,SqT.of har',zr (j:=1) rfl,_,_,rfl,?_⟩
     exact ⟨p+1,r',_,_,rfl,hcm,hrp',k4,v3,v4⟩
    ·have h1:r.op="label":=by
      rcases kD.mp cc with z | z
      ·exact z
      ·rcases kD.mp z with z | z
       ·exact absurd z h2
       ·exact absurd (ko.mp z) h3
     rw [kA h1] at hcm
     rw [kh h3]
     obtain ⟨r',ra',hrp',hra',har',i4,l4⟩:=read hcm k3 v1' v2'
     refine iteF ⟨_,rfl,_,_,rfl,rfl,?_⟩
     refine ⟨_,rfl,wk,CW,dw,_,.ref rl,rfl,i4,c.cl,c.rows,fr,_,rfl,rl,_,_,_,rfl,rfl,SqL.of l4,zr hra',ra',_,_,_,rfl,rfl,SqT.of har',zr (j:=0) rfl,
      _,rfl,wk,CW,dw,_,.ref rl,rfl,i4,c.cl,c.rows,fr,_,rfl,rl,_,_,_,rfl,rfl,SqL.of l4,zr hra',ra',_,_,_,rfl,rfl,SqT.of har',zr (j:=1) rfl,_,_,rfl,?_⟩
     exact ⟨p+1,r',_,_,rfl,hcm,hrp',k3,v1',v2'⟩
  ·have cc:¬inT r.op z28=true:=cc
   rw [Zk] at cc
   have h1:¬r.op="label":=fun z=>cc (by rw [z];decide+kernel)
   have h2:¬r.op="try":=fun z=>cc (by rw [z];decide+kernel)
   have h3:¬r.op="endtry":=fun z=>cc (by rw [z];decide+kernel)
   rw [kz h1,kz h2,kz h3] at hcm
   cases hcm
   exact ⟨_,rfl,q _ _ k3 v1' v2'⟩
end
section
variable {CW CH:Addr}
theorem zQ.come {H0 H:Hp} {a:WAd} {rs:List Row} {m:Mst} {gs gs':List Gd} {pas:List Nat} {e:List V} {here:Option Nat} {n p p':Nat} {Q:VK} {E:XK} (W:zQ K H0 H CW CH a rs m gs pas e here) (hcm:j4 rs m.st.length n p gs=some (p',gs'))
  (q:∀H',zQ K H0 H' CW CH a rs m gs' pas e here→Q (.int (p':Nat)) H'):Jd K CW CH [.ref a.wk,.int (p:Nat)] H Q E:=by
 obtain ⟨ea,i1,i2⟩:=W.ins
 obtain ⟨as,r1,r2⟩:=W.rows
 obtain ⟨gas,w1,w2⟩:=W.wards
 exact ⟨a.wk,a.dw,a.rl,a.wl,a.ho,a.dx,a.hl,_,_,as,gas,rs,m.st,gs,p,n,p',gs',rfl,i1,rfl,rfl,rfl,W.hold.ins,rfl,W.hold.held,r1,r2,w1,w2,W.n11,W.n4.symm,hcm,fun gas' H' k h1 h2=>q H' (W.ward k h1 h2)⟩
def z5i (K:ky) (CW CH:Addr):Sp:=fun vs H Q _=>∃(a:WAd) (H0:Hp) (rs:List Row) (m:Mst) (gs:List Gd) (pas:List Nat) (e:List V) (here:Option Nat) (ea:Addr) (e':List V),vs=[.ref a.wk,.ref ea]∧zQ K H0 H CW CH a rs m gs pas e here∧SqT K H ea e'∧∀H',zQ K H0 H' CW CH a rs m gs pas e' none→Q .non H'
theorem scW2:zj ["self","ending"] ["self","ending"] (zd (mW 2)):=fsM
theorem z8k (D:HasM K CW "finish" "Walk.finish" (mW 2)) (c:ZD K CW):MN P w K mg base 1 CW "finish" ["self","ending"] (z5i K CW CH):=by
 refine MN.o D scW2 fun f cdv A outer s H vs Q E hr h=>?_
 obtain ⟨a,H0,rs,m,gs,pas,e,here,ea,e',rfl,W,he,q⟩:=h
 obtain ⟨ea0,i1,i2⟩:=W.ins
 refine ⟨_,zb (qN (pv 0) zF rfl) (zf (qN (pv 0) (pv 1) rfl)),?_⟩
 refine ⟨_,rfl,a.wk,CW,a.dw,_,rfl,i1,c.cl,c.here,(by show 7 < 1000;decide),?_⟩
 have W1:=W.fields (here':=none) i2
 have kt:=qd.upd (o:=.ins CW a.dw (wfs a (.ref ea0) (z1s none))) i1 rfl
 refine ⟨_,rfl,_,rfl,a.wk,CW,a.dw,wfs a (.ref ea0) (z1s none),rfl,z7,c.cl,c.ending,(by show 7 < 1000;decide),?_⟩
 exact q _ (W1.fields (here':=none) (qK kt he))
noncomputable def z3v (rs:List Row) (m:Mst) (gs:List Gd) (e:List V) (kind:Str) (line:Int):Option (Mst × List Gd × List V × Option Nat):=match gs.getLast? with
 | none=>some (m,gs,[.str "fault",.str kind,.int line],none)
 | some g=>if qZ m.st.length=true then (match zM rs g.1 with
  | some j=>(match j4 rs (cutV m.st none (some g.2)++[V.str kind]).length 200 j gs.dropLast with
   | some (p',gs')=>some ({ m with st:=cutV m.st none (some g.2)++[V.str kind] },gs',e,some p')
   | none=>none)
  | none=>none) else none
def z4L (K:ky) (CW CH:Addr):Sp:=fun vs H Q _=>∃(a:WAd) (H0:Hp) (rs:List Row) (m:Mst) (gs:List Gd) (pas:List Nat) (e:List V) (here:Option Nat) (kind:Str) (line:Int) (m':Mst) (gs':List Gd) (e':List V) (here':Option Nat),vs=[.ref a.wk,.str kind,.int line]∧zQ K H0 H CW CH a rs m gs pas e here∧z3v rs m gs e kind line=some (m',gs',e',here')∧∀a' H',a'.wk=a.wk→zQ K H0 H' CW CH a' rs m' gs' pas e' here'→Q .non H'
theorem scW3:zj ["self","kind","line","mark","depth","hold"] ["self","kind","line"] (zd (mW 3)):=fsM
theorem z7f (D:HasM K CW "take_fault" "Walk.take_fault" (mW 3)) (c:ZD K CW) (ch:jd K CH) (F1:MN P w K mg base 1 CW "finish" ["self","ending"] (z5i K CW CH)) (F3:MN P w K mg base 1 CW "come_to" ["self","place"] (Jd K CW CH)):MN P w K mg base 2 CW "take_fault" ["self","kind","line"] (z4L K CW CH):=by
 refine MN.o D scW3 fun f cdv A outer s H vs Q E hr h=>?_
 obtain ⟨a,H0,rs,m,gs,pas,e,here,kind,line,m',gs',e',here',rfl,W,htk,q⟩:=h
 have hu:=Zl hr
 refine ⟨_,zb (zJ (qw (jH (zC (pv 0) rfl) (fun _=>rfl))) (zb (zH (z0g (pv 0) c.cl F1 hr (z6 (zB (z6 zo (z6 (pv 1) (z6 (pv 2) z8)))) z8))) (zf z5r)) zq)
  (zb (qO (jq (zC (pv 0) rfl)) (qU rfl (zp (zw (i:=3) scW3.nd rfl (Or.inl rfl)) (zp (zw (i:=4) scW3.nd rfl (Or.inl rfl)) qh))))
  (zb (zx (i:=5) scW3.nd rfl (Or.inl rfl) (zC (pv 0) rfl))
  (zb (qN (pv 5) (zY z0R (z0N z5k (zC (pv 5) rfl) z2k (z2j (pv 4))) (qe (z6 (pv 1) z8))) rfl)
  (zf (qN (pv 0) (z0g (pv 0) c.cl F3 hr (z6 (jy hu (zC (pv 0) rfl) (pv 3) (fun _ _=>rfl)) z8)) rfl))))),?_⟩
 obtain ⟨ea0,i1,i2⟩:=W.ins
 obtain ⟨gas,w1,w2⟩:=W.wards
 unfold z3v at htk
 cases hgl:gs.getLast? with
 | none=>
  rw [hgl] at htk
  cases htk
  have hg0:gs=[]:=List.getLast?_eq_none_iff.mp hgl
  subst hg0
  cases w2
  refine ⟨_,rfl,a.wk,CW,a.dw,_,.ref a.wl,rfl,i1,c.cl,c.wards,rfl,false,.inl ⟨_,SqL.of w1,rfl⟩,iteT ?_⟩
  refine ⟨_,rfl,a.wk,a.dw,_,rfl,i1,rfl,_,rfl,_,rfl,by show 3≤sizeLine;decide,fun p hp=>?_⟩
  have sp:=zg hp (.tup [.str "fault",.str kind,.int line])
  exact ⟨a,H0,rs,m,[],pas,e,here,p,_,rfl,W.same' sp,SqT.of z7,fun H' W'=>q a H' rfl W'⟩
 | some g=>
  rw [hgl] at htk
  dsimp only at htk
  by_cases hz:qZ m.st.length=true
  case neg=>rw [kz hz] at htk;cases htk
  rw [kA hz] at htk
  cases hfl:zM rs g.1 with
  | none=>rw [hfl] at htk;cases htk
  | some j=>
   rw [hfl] at htk
   dsimp only at htk
   cases hcm:j4 rs (cutV m.st none (some g.2)++[V.str kind]).length 200 j gs.dropLast with
   | none=>rw [hcm] at htk;cases htk
   | some pg=>
    obtain ⟨p',gs2⟩:=pg
    rw [hcm] at htk
    cases htk
    have hne:gs≠[]:=fun z=>by rw [z] at hgl;cases hgl
    obtain ⟨bs,ga,g',e1,e2,e3,e4⟩:=z53 w2 hne
    rw [hgl] at e2
    cases e2
    subst e1
    have hlast:((bs++[ga]).map V.ref)[((bs++[ga]).map V.ref).length - 1]?=some (V.ref ga):=by rw [←List.getLast?_eq_getElem?,kJ];simp
    have ed:((bs++[ga]).map V.ref).dropLast=bs.map V.ref:=by rw [kJ];simp
    refine ⟨_,rfl,a.wk,CW,a.dw,_,.ref a.wl,rfl,i1,c.cl,c.wards,rfl,true,.inl ⟨_,SqL.of w1,by simp⟩,iteF ?_⟩
    refine ⟨_,rfl,a.wk,CW,a.dw,_,.ref a.wl,rfl,i1,c.cl,c.wards,rfl,.inl ⟨rfl,_,SqL.of w1⟩,a.wl,_,_,rfl,rfl,w1,hlast,?_⟩
    rw [ed]
    have k1:jM H (upd H a.wl (.lst (bs.map V.ref))) a.wl:=fun b o e h=>by rw [ze h];exact e
    have kt:=qd.upd (o:=.lst (bs.map V.ref)) w1 rfl
    have W1:=W.ward (gs':=gs.dropLast) k1 z7 (e3.keep kt)
    have e4':=kt _ _ e4 rfl
    generalize upd H a.wl (.lst (bs.map V.ref))=H1 at *
    obtain ⟨ea1,j1,j2⟩:=W1.ins
    refine ⟨ga,_,rfl,SqT.of e4',rfl,_,_,rfl,_,_,rfl,rfl,?_⟩
    refine ⟨_,rfl,a.wk,CW,a.dw,_,.ref a.ho,rfl,j1,c.cl,c.hold,rfl,?_⟩
    refine ⟨_,rfl,a.ho,CH,a.dx,_,.ref a.hl,rfl,W1.hold.ins,ch.cl,ch.held,rfl,_,rfl,g.2,rfl,a.hl,_,rfl,SqL.of W1.hold.held,fun l1 h1=>?_⟩
    have s1:=zg h1 (.lst (cutV m.st none (some g.2)))
    refine ⟨_,rfl,by show 1≤sizeLine;decide,fun l2 h2=>?_⟩
    have s2:=zg h2 (.lst [V.str kind])
    have hzz:m.st.length≤1000:=kC hz
    have hcl:=jR m.st none (some g.2)
    refine ⟨l1,l2,_,_,rfl,rfl,s2 _ _ z7,z7,by rw [sizeLine_eq];show _+1≤_;lia,fun l3 h3=>?_⟩
    have s3:=zg h3 (.lst (cutV m.st none (some g.2)++[V.str kind]))
    have W3:=W1.same' (s1.trans s2)
    obtain ⟨as3,r1,r2⟩:=W3.rows
    obtain ⟨gas3,x1,x2⟩:=W3.wards
    have q1:=zc r1 h3
    have q2:=zc x1 h3
    have q3:=zc W3.passed h3
    have q4:=(zc W3.hold.said h3).symm
    have fp:=W3.same.free h3
    have W4:=W3.same' s3
    have W5:=W4.stack z7 fp q1 q2 q3 q4
    refine ⟨_,rfl,a.ho,CH,a.dx,_,rfl,W4.hold.ins,ch.cl,ch.held,(by show 3 < 1000;decide),?_⟩
    have W5:zQ K H0 (upd (upd (upd (upd H1 l1 (.lst (cutV m.st none (some g.2)))) l2 (.lst [V.str kind])) l3 (.lst (cutV m.st none (some g.2)++[V.str kind]))) a.ho (.ins CH a.dx (putF "held" (.ref l3) [("held",.ref a.hl),("known",.ref a.kd),("said",.ref a.sl)]))) CW CH { a with hl:=l3 } rs { m with st:=cutV m.st none (some g.2)++[V.str kind] } gs.dropLast pas e here:=W5
    generalize upd (upd (upd (upd H1 l1 (.lst (cutV m.st none (some g.2)))) l2 (.lst [V.str kind])) l3 (.lst (cutV m.st none (some g.2)++[V.str kind]))) a.ho (.ins CH a.dx (putF "held" (.ref l3) [("held",.ref a.hl),("known",.ref a.kd),("said",.ref a.sl)]))=H5 at *
    obtain ⟨ea5,y1,y2⟩:=W5.ins
    obtain ⟨kv,z1,z2⟩:=W5.goals
    have hv:valV kv (Sum.inl g.1:Key)=some (.int (j:Int)):=by rw [z2 g.1,hfl];rfl
    have hgt:DGet H5 a.gd (.int g.1) (some (.int (j:Int))):=by rw [←hv];exact DGet.k (k:=Sum.inl g.1) z1
    refine ⟨_,rfl,a.wk,a.dw,_,rfl,y1,rfl,_,rfl,a.wk,CW,a.dw,_,.ref a.gd,rfl,y1,c.cl,c.goals,rfl,_,rfl,a.gd,_,rfl,hgt,?_⟩
    refine zQ.come (a:={ a with hl:=l3 }) W5 hcm fun H6 W6=>?_
    obtain ⟨ea6,u1,u2⟩:=W6.ins
    refine ⟨_,rfl,a.wk,CW,a.dw,_,rfl,u1,c.cl,c.here,(by show 7 < 1000;decide),?_⟩
    exact q { a with hl:=l3 } _ rfl (W6.fields (here':=some p') u2)
end
section
variable {CW CH:Addr}
noncomputable def J9 (rs:List Row) (m:Mst) (gs:List Gd) (pas:List Nat) (p:Nat):Option (Mst × List Gd × List Nat × List V × Option Nat):=match rs[p]? with
 | none=>none
 | some r=>if qZ pas.length=true then (match rowM r.op r.arg m with
  | none=>none
  | some (.next,m')=>(match j4 rs m'.st.length 200 (p+1) gs with | some (p',gs')=>some (m',gs',pas++[p],[.str "on"],some p') | none=>none)
  | some (.go,m')=>(match r.arg with
   | .int mk=>(match zM rs mk with
    | some j=>(match j4 rs m'.st.length 200 j gs with | some (p',gs')=>some (m',gs',pas++[p],[.str "on"],some p') | none=>none)
    | none=>none)
   | _=>none)
  | some (.fault k,m')=>(match z3v rs m' gs [.str "on"] k r.line with | some (m'',gs',e',here')=>some (m'',gs',pas++[p],e',here') | none=>none)
  | some (.value v,m')=>some (m',gs,pas++[p],[.str "value",v],none)) else none
def z4M (K:ky) (CW CH:Addr):Sp:=fun vs H Q _=>∃(a:WAd) (H0:Hp) (rs:List Row) (m:Mst) (gs:List Gd) (pas:List Nat) (p:Nat) (m':Mst) (gs':List Gd) (pas':List Nat) (e':List V) (here':Option Nat),vs=[.ref a.wk]∧zQ K H0 H CW CH a rs m gs pas [.str "on"] (some p)∧J9 rs m gs pas p=some (m',gs',pas',e',here')∧∀a' H',a'.wk=a.wk→zQ K H0 H' CW CH a' rs m' gs' pas' e' here'→Q (.bl true) H'
theorem scW4:zj ["self","place","op","arg","line","word","value"] ["self"] (zd (mW 4)):=fsM
theorem z7g (D:HasM K CW "step" "Walk.step" (mW 4)) (c:ZD K CW) (F1:MN P w K mg base 1 CW "finish" ["self","ending"] (z5i K CW CH)) (F2:MN P w K mg base 2 CW "take_fault" ["self","kind","line"] (z4L K CW CH)) (F3:MN P w K mg base 1 CW "come_to" ["self","place"] (Jd K CW CH))
  (FR:FN P w K mg base 5 "do_row" ["hold","op","arg"] (zO K CH rowM)):MN P w K mg base 6 CW "step" ["self"] (z4M K CW CH):=by
 refine MN.o D scW4 fun f cdv A outer s H vs Q E hr h=>?_
 obtain ⟨a,H0,rs,m,gs,pas,p,m',gs',pas',e',here',rfl,W,hst,q⟩:=h
 have hu:=Zl hr
 have hr1:=hr.mono (show 1≤5 by decide)
 have hr2:=hr.mono (show 2≤5 by decide)
 refine ⟨_,zb (zJ (zn jX (zC (pv 0) rfl) zF (zt _)) zP zq)
  (zb (zx (i:=1) scW4.nd rfl (Or.inl rfl) (zC (pv 0) rfl))
  (zb (qO (zS zN (zC (pv 0) rfl) (pv 1) (fun _ _=>rfl)) (qU rfl (zp (zw (i:=2) scW4.nd rfl (Or.inl rfl)) (zp (zw (i:=3) scW4.nd rfl (Or.inl rfl)) (zp (zw (i:=4) scW4.nd rfl (Or.inl rfl)) qh)))))
  (zb (zH (jr (zC (pv 0) rfl) (z6 (pv 1) z8)))
  (zb (qO (zu FR hr rfl (z6 (zC (pv 0) rfl) (z6 (pv 2) (z6 (pv 3) z8)))) (qU rfl (zp (zw (i:=5) scW4.nd rfl (Or.inl rfl)) (zp (zw (i:=6) scW4.nd rfl (Or.inl rfl)) qh))))
  (zb (zJ (zn qC (pv 5) zo (zt _)) (zf (qN (pv 0) (z0g (pv 0) c.cl F3 hr1 (z6 (zY jz (pv 1) zh) z8)) rfl))
   (zf (zJ (zn qC (pv 5) zo (zt _)) (zf (qN (pv 0) (z0g (pv 0) c.cl F3 hr1 (z6 (jy hu (zC (pv 0) rfl) (pv 3) (fun _ _=>rfl)) z8)) rfl))
    (zf (zJ (zn qC (pv 5) zo (zt _)) (zf (zH (z0g (pv 0) c.cl F2 hr2 (z6 (pv 6) (z6 (pv 4) z8)))))
     (zf (zH (z0g (pv 0) c.cl F1 hr1 (z6 (zB (z6 (pv 5) (z6 (pv 6) z8))) z8)))))))))
  (zf (zk qV))))))),?_⟩
 obtain ⟨ea,i1,i2⟩:=W.ins
 obtain ⟨as,r1,r2⟩:=W.rows
 unfold J9 at hst
 cases hrp:rs[p]? with
 | none=>rw [hrp] at hst;cases hst
 | some r=>
  rw [hrp] at hst
  dsimp only at hst
  by_cases hpz:qZ pas.length=true
  case neg=>rw [kz hpz] at hst;cases hst
  rw [kA hpz] at hst
  obtain ⟨ra,hra,har⟩:=r2.get' hrp
  refine ⟨_,rfl,a.wk,CW,a.dw,_,.int (p:Nat),rfl,i1,c.cl,c.here,rfl,rfl,_,rfl,iteF ?_⟩
  refine ⟨_,rfl,a.wk,CW,a.dw,_,.int (p:Nat),rfl,i1,c.cl,c.here,rfl,?_⟩
  refine ⟨_,rfl,a.wk,CW,a.dw,_,.ref a.rl,rfl,i1,c.cl,c.rows,rfl,_,rfl,a.rl,_,_,_,rfl,rfl,SqL.of r1,zr hra,ra,_,rfl,SqT.of har,rfl,_,_,rfl,_,_,rfl,_,_,rfl,rfl,?_⟩
  cases hrow:rowM r.op r.arg m with
  | none=>rw [hrow] at hst;cases hst
  | some rm=>
   obtain ⟨res,m1⟩:=rm
   rw [hrow] at hst
   try dsimp only at hst
   refine ⟨_,rfl,a.wk,CW,a.dw,_,.ref a.pl,rfl,i1,c.cl,c.passed,rfl,.inl ⟨rfl,_,SqL.of W.passed⟩,_,rfl,a.pl,_,_,rfl,rfl,W.passed,(by rw [kj];exact qR hpz),?_⟩
   have W1:=W.pass p
   generalize upd H a.pl (.lst ((pas.map fun p=>V.int (p:Nat))++[.int (p:Nat)]))=H1 at W1
   obtain ⟨ea1,j1,j2⟩:=W1.ins
   refine ⟨_,rfl,a.wk,CW,a.dw,_,.ref a.ho,rfl,j1,c.cl,c.hold,rfl,_,rfl,_,rfl,a.ho,a.hl,a.kd,a.sl,a.dx,r.op,r.arg,m,res,m1,rfl,W1.hold,hrow,fun t H2 ht hA hrest=>?_⟩
   have W2:=W1.deed hA hrest
   obtain ⟨ea2,l1,l2⟩:=W2.ins
   cases res with
   | next=>
    dsimp only at hst
    refine ⟨t,_,rfl,ht,rfl,_,_,rfl,_,_,rfl,rfl,?_⟩
    cases hcm:j4 rs m1.st.length 200 (p+1) gs with
    | none=>rw [hcm] at hst;cases hst
    | some pg=>
     obtain ⟨p',gs2⟩:=pg
     rw [hcm] at hst
     cases hst
     refine ⟨_,rfl,rfl,_,rfl,iteT ?_⟩
     refine ⟨_,rfl,a.wk,a.dw,_,rfl,l1,rfl,_,rfl,_,_,rfl,rfl,?_⟩
     refine zQ.come W2 hcm fun H3 W3=>?_
     obtain ⟨ea3,u1,u2⟩:=W3.ins
     refine ⟨_,rfl,a.wk,CW,a.dw,_,rfl,u1,c.cl,c.here,(by show 7 < 1000;decide),?_⟩
     exact q a _ rfl (W3.fields (here':=some p') u2)
   | go=>
    dsimp only at hst
    refine ⟨t,_,rfl,ht,rfl,_,_,rfl,_,_,rfl,rfl,?_⟩
    cases harg:r.arg with
    | int mk=>
     rw [harg] at hst
     dsimp only at hst
     cases hfl:zM rs mk with
     | none=>rw [hfl] at hst;cases hst
     | some j=>
      rw [hfl] at hst
      dsimp only at hst
      cases hcm:j4 rs m1.st.length 200 j gs with
      | none=>rw [hcm] at hst;cases hst
      | some pg=>
       obtain ⟨p',gs2⟩:=pg
       rw [hcm] at hst
       cases hst
       obtain ⟨kv,g1,g2⟩:=W2.goals
       have hv:valV kv (Sum.inl mk:Key)=some (.int (j:Int)):=by rw [g2 mk,hfl];rfl
       have hgt:DGet H2 a.gd (.int mk) (some (.int (j:Int))):=by rw [←hv];exact DGet.k (k:=Sum.inl mk) g1
       refine ⟨_,rfl,rfl,_,rfl,iteF ⟨_,rfl,rfl,_,rfl,iteT ?_⟩⟩
       refine ⟨_,rfl,a.wk,a.dw,_,rfl,l1,rfl,_,rfl,a.wk,CW,a.dw,_,.ref a.gd,rfl,l1,c.cl,c.goals,rfl,_,rfl,a.gd,_,rfl,hgt,?_⟩
       refine zQ.come W2 hcm fun H3 W3=>?_
       obtain ⟨ea3,u1,u2⟩:=W3.ins
       refine ⟨_,rfl,a.wk,CW,a.dw,_,rfl,u1,c.cl,c.here,(by show 7 < 1000;decide),?_⟩
       exact q a _ rfl (W3.fields (here':=some p') u2)
    | _=>rw [harg] at hst;cases hst
   | fault k=>
    dsimp only at hst
    cases htk:z3v rs m1 gs [.str "on"] k r.line with
    | none=>rw [htk] at hst;cases hst
    | some rr=>
     obtain ⟨m2,gs2,e2,here2⟩:=rr
     rw [htk] at hst
     cases hst
     refine ⟨t,_,rfl,ht,rfl,_,_,rfl,_,_,rfl,rfl,?_⟩
     refine ⟨_,rfl,rfl,_,rfl,iteF ⟨_,rfl,rfl,_,rfl,iteF ⟨_,rfl,rfl,_,rfl,iteT ?_⟩⟩⟩
     exact ⟨_,rfl,a.wk,a.dw,_,rfl,l1,rfl,_,rfl,_,rfl,a,H0,rs,_,_,_,_,_,k,r.line,m',gs',e',here',rfl,W2,htk,fun a' H3 ha W3=>q a' H3 ha W3⟩
   | value v=>
    cases hst
    refine ⟨t,_,rfl,ht,rfl,_,_,rfl,_,_,rfl,rfl,?_⟩
    refine ⟨_,rfl,rfl,_,rfl,iteF ⟨_,rfl,rfl,_,rfl,iteF ⟨_,rfl,rfl,_,rfl,iteF ?_⟩⟩⟩
    refine ⟨_,rfl,a.wk,a.dw,_,rfl,l1,rfl,_,rfl,_,rfl,by show 2≤sizeLine;decide,fun p2 hp2=>?_⟩
    have sp:=zg hp2 (.tup [.str "value",v])
    exact ⟨a,H0,rs,_,_,_,_,_,p2,_,rfl,W2.same' sp,SqT.of z7,fun H3 W3=>q a H3 rfl W3⟩
end
section
variable {CW CH:Addr}
abbrev WX (K:ky) (CW CH:Addr) (H:Hp) (φ:WAd→Hp→List Row→Mst→List Gd→List Nat→List V→Option Nat→Prop):Prop:=∃(a:WAd) (H0:Hp) (rs:List Row) (m:Mst) (gs:List Gd) (pas:List Nat) (e:List V) (here:Option Nat),zQ K H0 H CW CH a rs m gs pas e here∧φ a H0 rs m gs pas e here
def z1Y (K:ky) (CW CH:Addr):Sp:=fun vs H Q _=>WX K CW CH H fun a _ _ _ _ _ _ here=>vs=[.ref a.wk]∧Q (z1s here) H
theorem scW5:zj ["self"] ["self"] (zd (mW 5)):=fsM
theorem z5A (D:HasM K CW "place" "Walk.place" (mW 5)) (c:ZD K CW):MN P w K mg base 1 CW "place" ["self"] (z1Y K CW CH):=by
 refine MN.o D scW5 fun f cdv A outer s H vs Q E hr h=>?_
 obtain ⟨a,H0,rs,m,gs,pas,e,here,W,rfl,q⟩:=h
 obtain ⟨ea,i1,i2⟩:=W.ins
 exact ⟨_,zf (zk (zC (pv 0) rfl)),_,rfl,a.wk,CW,a.dw,_,_,rfl,i1,c.cl,c.here,rfl,q⟩
def z3D (K:ky) (CW CH:Addr):Sp:=fun vs H Q _=>WX K CW CH H fun a _ _ _ _ _ e _=>vs=[.ref a.wk]∧∀ea,SqT K H ea e→Q (.ref ea) H
theorem z82:zj ["self"] ["self"] (zd (mW 11)):=fsM
theorem z8l (D:HasM K CW "end" "Walk.end" (mW 11)) (c:ZD K CW):MN P w K mg base 1 CW "end" ["self"] (z3D K CW CH):=by
 refine MN.o D z82 fun f cdv A outer s H vs Q E hr h=>?_
 obtain ⟨a,H0,rs,m,gs,pas,e,here,W,rfl,q⟩:=h
 obtain ⟨ea,i1,i2⟩:=W.ins
 exact ⟨_,zf (zk (zC (pv 0) rfl)),_,rfl,a.wk,CW,a.dw,_,_,rfl,i1,c.cl,c.ending,rfl,q ea i2⟩
def z1V (K:ky) (CW CH:Addr):Sp:=fun vs H Q _=>WX K CW CH H fun a _ _ m _ _ _ _=>vs=[.ref a.wk]∧∀l,H l=none→Q (.ref l) (upd H l (.lst m.sd))
theorem scW9:zj ["self"] ["self"] (zd (mW 9)):=fsM
theorem z7e (D:HasM K CW "told" "Walk.told" (mW 9)) (c:ZD K CW) (ch:jd K CH) (G:Glo mg):MN P w K mg base 1 CW "told" ["self"] (z1V K CW CH):=by
 refine MN.o D scW9 fun f cdv A outer s H vs Q E hr h=>?_
 obtain ⟨a,H0,rs,m,gs,pas,e,here,W,rfl,q⟩:=h
 obtain ⟨ea,i1,i2⟩:=W.ins
 refine ⟨_,zf (zk (jg jE rfl G.list Z5 (z6 (zC (zC (pv 0) rfl) rfl) z8))),?_⟩
 exact ⟨_,rfl,a.wk,CW,a.dw,_,.ref a.ho,rfl,i1,c.cl,c.hold,rfl,a.ho,CH,a.dx,_,.ref a.sl,rfl,W.hold.ins,ch.cl,ch.said,rfl,a.sl,_,rfl,.inl (SqL.of W.hold.said),q⟩
def z5h (K:ky) (CW CH:Addr):Sp:=fun vs H Q _=>WX K CW CH H fun a _ _ _ _ pas _ _=>vs=[.ref a.wk]∧Q (.int (pas.length:Nat)) H
theorem z81:zj ["self"] ["self"] (zd (mW 12)):=fsM
theorem z8j (D:HasM K CW "__len__" "Walk.__len__" (mW 12)) (c:ZD K CW) (G:Glo mg):MN P w K mg base 1 CW "__len__" ["self"] (z5h K CW CH):=by
 refine MN.o D z81 fun f cdv A outer s H vs Q E hr h=>?_
 obtain ⟨a,H0,rs,m,gs,pas,e,here,W,rfl,q⟩:=h
 obtain ⟨ea,i1,i2⟩:=W.ins
 refine ⟨_,zf (zk (zl qb rfl G.len zR (z6 (zC (pv 0) rfl) z8))),?_⟩
 refine ⟨_,rfl,a.wk,CW,a.dw,_,.ref a.pl,rfl,i1,c.cl,c.passed,rfl,a.pl,_,rfl,.inl (SqL.of W.passed),?_⟩
 rw [kj]
 exact q
end
structure Ini (H Hi:Hp) (x CW dw:Addr) (fs:List (Str × V)) (ps:List (Addr × HO)):Prop where
 sx:∀b o,H b=some o→b≠x→Hi b=some o
 hx:Hi x=some (.ins CW dw fs)
 held:∀q∈ps,Hi q.1=some q.2∧q.1≠x
theorem Ini.same {H Hi Hj:Hp} {x CW dw:Addr} {fs:List (Str × V)} {ps:List (Addr × HO)} (I:Ini H Hi x CW dw fs ps) (s:Same Hi Hj):Ini H Hj x CW dw fs ps:=
 ⟨fun b o e h=>s _ _ (I.sx b o e h),s _ _ I.hx,fun q hq=>⟨s _ _ (I.held q hq).1,(I.held q hq).2⟩⟩
theorem Ini.setx {H Hi:Hp} {x CW dw:Addr} {fs:List (Str × V)} {ps:List (Addr × HO)} (I:Ini H Hi x CW dw fs ps) (f:Str) (v:V):Ini H (upd Hi x (.ins CW dw (putF f v fs))) x CW dw (putF f v fs) ps:=
 ⟨fun b o e h=>by rw [ze h];exact I.sx b o e h,z7,fun q hq=>⟨by rw [ze (I.held q hq).2];exact (I.held q hq).1,(I.held q hq).2⟩⟩
theorem Ini.add {H Hi:Hp} {x CW dw p:Addr} {fs:List (Str × V)} {ps:List (Addr × HO)} {o:HO} (I:Ini H Hi x CW dw fs ps) (e:Hi p=some o) (h:p≠x):Ini H Hi x CW dw fs ((p,o) :: ps):=
 ⟨I.sx,I.hx,fun q hq=>by
  rcases kD.mp hq with z | z
  ·rw [z];exact ⟨e,h⟩
  ·exact I.held q z⟩
theorem Ini.new {H Hi:Hp} {x CW dw p:Addr} {fs:List (Str × V)} {ps:List (Addr × HO)} {o:HO} (I:Ini H Hi x CW dw fs ps) (hp:Hi p=none):Ini H (upd Hi p o) x CW dw fs ((p,o) :: ps):=
 (I.same (zg hp o)).add z7 (zc I.hx hp).symm
theorem Ini.nen {H Hi:Hp} {x CW dw p:Addr} {fs:List (Str × V)} {ps:List (Addr × HO)} (I:Ini H Hi x CW dw fs ps) (hp:Hi p=none) {q:Addr} {o:HO} (h:(q,o)∈ps):q≠p:=zc (I.held _ h).1 hp
section
variable {CW CH:Addr}
def z0K (K:ky) (CW CH:Addr):Sp:=fun vs H Q _=>∃(x l d dw:Addr) (as:List Addr) (rs:List Row) (fin:Fnd) (kvs:List (Key × V)) (n p':Nat) (gs':List Gd) (H0:Hp),vs=[.ref x,.ref l,.ref d]∧H x=some (.ins CW dw [])∧H0 x=none∧Same H0 H∧H l=some (.lst (as.map V.ref))∧zL H as rs∧Code rs∧jw rs=some fin∧
 H d=some (.dK kvs)∧Zq kvs∧j4 rs 0 n 0 []=some (p',gs')∧∀(a:WAd) H',a.wk=x→zQ K H0 H' CW CH a rs ⟨[],kvs,[]⟩ gs' [] [.str "on"] (some p')→Q .non H'
theorem scW0:zj ["self","code","names"] ["self","code","names"] (zd (mW 0)):=fsM
theorem z5G (D:HasI K CW "Walk.__init__" (mW 0)) (c:ZD K CW) (G:Glo mg) (cs:Cons K mg) (hmH:mg "Hold"=some (.ref CH)) (FS:FN P w K mg base 10 "states" ["code"] (QD K)) (FN':FN P w K mg base 5 "check_names" ["thing"] z4T) (FL:FN P w K mg base 7 "label_places" ["rows"] (Jb K))
  (FH:IN P w K mg base 1 CH ["self","names"] (z4Q CH)) (FC:MN P w K mg base 1 CW "come_to" ["self","place"] (Jd K CW CH)):IN P w K mg base 11 CW ["self","code","names"] (z0K K CW CH):=by
 refine IN.o D scW0 fun f cdv A outer s H vs Q E hr h=>?_
 obtain ⟨x,l,d,dw,as,rs,fin,kvs,n,p',gs',H0,rfl,hx,hx0,s0,hl,hR,hc,hfin,hd,hn,hcm,q⟩:=h
 obtain ⟨oa,mo,to⟩:=cs.on
 refine ⟨_,zb (zH (zu FS hr rfl (z6 (pv 1) z8)))
  (zb (zH (zu FN' (hr.mono (by decide)) rfl (z6 (pv 2) z8)))
  (zb (qN (pv 0) (jg jE rfl G.list Z5 (z6 (pv 1) z8)) rfl)
  (zb (qN (pv 0) (zu FL (hr.mono (by decide)) rfl (z6 (pv 1) z8)) rfl)
  (zb (qN (pv 0) (z3R FH (hr.mono (by decide)) rfl hmH (z6 (pv 2) z8)) rfl)
  (zb (qN (pv 0) (qe z8) rfl)
  (zb (qN (pv 0) (qe z8) rfl)
  (zb (qN (pv 0) (zA rfl mo (v:=.ref oa) rfl) rfl)
  (zf (qN (pv 0) (z0g (pv 0) c.cl FC (hr.mono (by decide)) (z6 zh z8)) rfl))))))))),?_⟩
 have I0:Ini H H x CW dw [] []:=⟨fun _ _ e _=>e,hx,fun q hq=>by cases hq⟩
 have nlx:l≠x:=zD hl hx nofun
 have ndx:d≠x:=zD hd hx nofun
 have rowsK:∀{Hi fs ps},Ini H Hi x CW dw fs ps→zL Hi as rs:=fun I=>hR.keep fun b xs e=>I.sx _ _ e (zD e hx nofun)
 have fresh:∀{Hi fs ps p},Ini H Hi x CW dw fs ps→Hi p=none→H0 p=none:=fun {Hi fs ps p} I hp=>by
  cases e:H0 p with
  | none=>rfl
  | some o=>
   have:=I.sx p o (s0 _ _ e) (zc e hx0)
   rw [hp] at this
   cases this
 refine ⟨_,rfl,l,as,rs,fin,rfl,hl,hR,hc,hfin,fun fl fvs H1 s1 _ _ _=>?_⟩
 refine ⟨_,rfl,d,kvs,rfl,s1 _ _ hd,hn,fun H2 s2=>?_⟩
 have I2:=(I0.same s1).same s2
 refine ⟨_,rfl,l,_,rfl,.inl (SqL.of (I2.sx _ _ hl nlx)),fun rl hrl=>?_⟩
 have I3:=I2.new (o:=.lst (as.map V.ref)) hrl
 refine ⟨_,rfl,x,CW,dw,[],rfl,I3.hx,c.cl,c.rows,(by decide),?_⟩
 have I4:=I3.setx "rows" (.ref rl)
 clear I3 I2
 generalize upd (upd H2 rl (.lst (as.map V.ref))) x (.ins CW dw (putF "rows" (.ref rl) []))=H4 at I4
 refine ⟨_,rfl,l,as,rs,rfl,SqL.of (I4.sx _ _ hl nlx),rowsK I4,hc.ok,ku hc.hi (by decide),fun gd kg H5 hgd0 s5 hgd hL=>?_⟩
 have ngx:gd≠x:=(zc I4.hx hgd0).symm
 have nrg:rl≠gd:=I4.nen hgd0 (o:=.lst (as.map V.ref)) (by simp)
 have I5:=(I4.same s5).add hgd ngx
 refine ⟨_,rfl,x,CW,dw,_,rfl,I5.hx,c.cl,c.goals,(by show 1 < 1000;decide),?_⟩
 have I6:=I5.setx "goals" (.ref gd)
 clear I5 I4
 generalize upd H5 x (.ins CW dw (putF "goals" (.ref gd) (putF "rows" (.ref rl) [])))=H6 at I6
 refine ⟨_,rfl,fun ho dx hho hdx ndh=>?_⟩
 have sA:=(zg hdx (.own ho))
 have hho':(upd H6 dx (.own ho)) ho=none:=by rw [ze ndh.symm];exact hho
 have sB:=sA.trans (zg hho' (.ins CH dx []))
 refine ⟨ho,d,dx,kvs,rfl,z7,sB _ _ (I6.sx _ _ hd ndx),fun hl' kd sl H7 f1 f2 f3 hA kp=>⟨rfl,?_⟩⟩
 have s7:Same H6 H7:=fun b o e=>kp b o (sB _ _ e) (zc e hho)
 have g1:=sB.free f1
 have g2:=sB.free f2
 have g3:=sB.free f3
 have fho:=fresh I6 hho
 have nhx:ho≠x:=(zc I6.hx hho).symm
 have n1:rl≠hl':=I6.nen g1 (o:=.lst (as.map V.ref)) (by simp)
 have n2:rl≠sl:=I6.nen g3 (o:=.lst (as.map V.ref)) (by simp)
 have n9:gd≠kd:=I6.nen g2 (o:=.dK kg) (by simp)
 have fh1:=fresh I6 g1
 have fh2:=fresh I6 g2
 have fh3:=fresh I6 g3
 have I7:=((((I6.same s7).add hA.ins nhx).add hA.held (zc I6.hx g1).symm).add hA.known (zc I6.hx g2).symm).add hA.said (zc I6.hx g3).symm
 refine ⟨_,rfl,x,CW,dw,_,rfl,I7.hx,c.cl,c.hold,(by show 2 < 1000;decide),?_⟩
 have I8:=I7.setx "hold" (.ref ho)
 have nehs:=hA.ne
 clear I7 I6 kp hA sA sB
 generalize upd H7 x (.ins CW dw (putF "hold" (.ref ho) (putF "goals" (.ref gd) (putF "rows" (.ref rl) []))))=H8 at I8
 refine ⟨by show 0≤sizeLine;decide,fun wl hwl=>?_⟩
 have n4:hl'≠wl:=I8.nen hwl (o:=.lst []) (by simp)
 have n5:sl≠wl:=I8.nen hwl (o:=.lst []) (by simp)
 have I9:=I8.new (o:=.lst []) hwl
 have nrw:rl≠wl:=I8.nen hwl (o:=.lst (as.map V.ref)) (by simp)
 have nwx:wl≠x:=(zc I8.hx hwl).symm
 have fwl:=fresh I8 hwl
 refine ⟨_,rfl,x,CW,dw,_,rfl,I9.hx,c.cl,c.wards,(by show 3 < 1000;decide),?_⟩
 have I10:=I9.setx "wards" (.ref wl)
 clear I9 I8
 generalize upd (upd H8 wl (.lst [])) x (.ins CW dw (putF "wards" (.ref wl) (putF "hold" (.ref ho) (putF "goals" (.ref gd) (putF "rows" (.ref rl) [])))))=H10 at I10
 refine ⟨by show 0≤sizeLine;decide,fun pl hpl=>?_⟩
 have n3:rl≠pl:=I10.nen hpl (o:=.lst (as.map V.ref)) (by simp)
 have n6:wl≠pl:=I10.nen hpl (o:=.lst []) (by simp)
 have n7:hl'≠pl:=I10.nen hpl (o:=.lst []) (by simp)
 have n8:sl≠pl:=I10.nen hpl (o:=.lst []) (by simp)
 have fpl:=fresh I10 hpl
 have I11:=I10.new (o:=.lst []) hpl
 refine ⟨_,rfl,x,CW,dw,_,rfl,I11.hx,c.cl,c.passed,(by show 4 < 1000;decide),?_⟩
 have I12:=I11.setx "passed" (.ref pl)
 clear I11 I10
 generalize upd (upd H10 pl (.lst [])) x (.ins CW dw (putF "passed" (.ref pl) (putF "wards" (.ref wl) (putF "hold" (.ref ho) (putF "goals" (.ref gd) (putF "rows" (.ref rl) []))))))=H12 at I12
 refine ⟨_,rfl,x,CW,dw,_,rfl,I12.hx,c.cl,c.ending,(by show 5 < 1000;decide),?_⟩
 have I13:=I12.setx "ending" (.ref oa)
 clear I12
 generalize upd H12 x (.ins CW dw (putF "ending" (.ref oa) (putF "passed" (.ref pl) (putF "wards" (.ref wl) (putF "hold" (.ref ho) (putF "goals" (.ref gd) (putF "rows" (.ref rl) [])))))))=H13 at I13
 have hrl13:H13 rl=some (.lst (as.map V.ref)):=(I13.held (rl,.lst (as.map V.ref)) (by simp)).1
 have hho13:=(I13.held (ho,.ins CH dx [("held",.ref hl'),("known",.ref kd),("said",.ref sl)]) (by simp)).1
 have hhl13:=(I13.held (hl',.lst []) (by simp)).1
 have hwl13:=(I13.held (wl,.lst []) (by simp)).1
 have hpl13:=(I13.held (pl,.lst []) (by simp)).1
 have hgd13:=(I13.held (gd,.dK kg) (by simp)).1
 have hkd13:=(I13.held (kd,.dK kvs) (by simp)).1
 have hsl13:=(I13.held (sl,.lst []) (by simp)).1
 refine ⟨_,rfl,x,dw,_,rfl,I13.hx,rfl,x,dw,rl,wl,ho,dx,hl',_,_,as,[],rs,[],[],0,n,p',gs',rfl,I13.hx,rfl,rfl,rfl,hho13,rfl,hhl13,hrl13,rowsK I13,hwl13,.nil,nrw,n4,hcm,fun gas' H14 k14 v1 v2=>?_⟩
 refine ⟨_,rfl,x,CW,dw,_,rfl,k14 _ _ I13.hx nwx.symm,c.cl,c.here,(by show 6 < 1000;decide),?_⟩
 have kx:∀{b o},H13 b=some o→b≠wl→b≠x→(upd H14 x (.ins CW dw (putF "here" (.int (p':Nat)) (putF "ending" (.ref oa) (putF "passed" (.ref pl) (putF "wards" (.ref wl) (putF "hold" (.ref ho) (putF "goals" (.ref gd) (putF "rows" (.ref rl) []))))))))) b=some o:=fun e h1 h2=>by rw [ze h2];exact k14 _ _ e h1
 have sx15:Same H0 (upd H14 x (.ins CW dw (putF "here" (.int (p':Nat)) (putF "ending" (.ref oa) (putF "passed" (.ref pl) (putF "wards" (.ref wl) (putF "hold" (.ref ho) (putF "goals" (.ref gd) (putF "rows" (.ref rl) []))))))))):=fun b o e=>kx (I13.sx b o (s0 _ _ e) (zc e hx0)) (zc e fwl) (zc e hx0)
 have kt:qd H14 (upd H14 x (.ins CW dw (putF "here" (.int (p':Nat)) (putF "ending" (.ref oa) (putF "passed" (.ref pl) (putF "wards" (.ref wl) (putF "hold" (.ref ho) (putF "goals" (.ref gd) (putF "rows" (.ref rl) []))))))))):=qd.upd (k14 _ _ I13.hx nwx.symm) rfl
 refine q ⟨x,dw,rl,gd,ho,wl,pl,hl',kd,sl,dx⟩ _ rfl ⟨sx15,hx0,fpl,fh1,fh2,fh3,fwl,fho,⟨oa,z7,to.sq _⟩,⟨as,kx hrl13 nrw (zD hrl13 I13.hx nofun),(rowsK I13).keep fun b xs e=>kx e (zD e hwl13 nofun) (zD e I13.hx nofun)⟩,⟨kg,kx hgd13 (zD hgd13 hwl13 nofun) (zD hgd13 I13.hx nofun),hL⟩,
  ⟨kx hho13 (zD hho13 hwl13 nofun) nhx,kx hhl13 n4 (zD hhl13 I13.hx nofun),kx hkd13 (zD hkd13 hwl13 nofun) (zD hkd13 I13.hx nofun),kx hsl13 n5 (zD hsl13 I13.hx nofun),nehs⟩,⟨gas',by rw [ze nwx];exact v1,v2.keep kt⟩,kx hpl13 n6.symm (zD hpl13 I13.hx nofun),n1,n2,n3,n4.symm,n5.symm,n6,n7.symm,n8.symm,n9,nhx.symm,nrw⟩
end
noncomputable def Z0 (rs:List Row) (steps:Nat):Nat→Mst→List Gd→List Nat→List V→Option Nat→Option (Mst × List Nat × List V)
 | _,m,_,pas,e,none=>some (m,pas,e)
 | 0,m,_,pas,e,some _=>if pas.length < steps then none else some (m,pas,e)
 | n+1,m,gs,pas,e,some p=>if pas.length < steps then (if e=[.str "on"] then (match J9 rs m gs pas p with
   | some (m',gs',pas',e',here')=>Z0 rs steps n m' gs' pas' e' here'
   | none=>none) else none) else some (m,pas,e)
noncomputable def runM (rs:List Row) (kvs:List (Key × V)) (steps:Nat):Option (List V × List V × Nat):=match jw rs with
 | none=>none
 | some _=>match j4 rs 0 200 0 [] with
  | none=>none
  | some (p0,g0)=>match Z0 rs steps 500 ⟨[],kvs,[]⟩ g0 [] [.str "on"] (some p0) with
   | some (m,pas,e)=>some (e,m.sd,pas.length)
   | none=>none
theorem z3A {rs:List Row} {m m':Mst} {gs gs':List Gd} {pas pas':List Nat} {p:Nat} {e':List V} {here':Option Nat} (h:J9 rs m gs pas p=some (m',gs',pas',e',here')):pas'.length≤1001:=by
 unfold J9 at h
 have go:qZ pas.length=true→(pas++[p]).length≤1001:=fun z=>by
  have:=kC z
  rw [kl]
  show pas.length+1≤1001
  lia
 repeat' split at h
 all_goals first
  | (cases h)
  | skip
 all_goals (first | exact go (by assumption) | skip)
section
variable {CW CH:Addr}
def z6M (K:ky):Sp:=fun vs H Q _=>∃(l d:Addr) (as:List Addr) (rs:List Row) (kvs:List (Key × V)) (steps:Nat) (e sd:List V) (n:Nat),vs=[.ref l,.ref d,.int (steps:Nat)]∧H l=some (.lst (as.map V.ref))∧zL H as rs∧Code rs∧H d=some (.dK kvs)∧Zq kvs∧steps≤100000∧runM rs kvs steps=some (e,sd,n)∧
 ∀t ea tl H',Same H H'→H' t=some (.tup [.ref ea,.ref tl,.int (n:Nat)])→SqT K H' ea e→H' tl=some (.lst sd)→Q (.ref t) H'
theorem z1e:zj ["code","names","steps","walk"] ["code","names","steps"] (zd (top 104)):=fsM
theorem z7w (D:zm K mg "run" (top 104)) (c:ZD K CW) (G:Glo mg) (hmW:mg "Walk"=some (.ref CW)) (FI:IN P w K mg base 11 CW ["self","code","names"] (z0K K CW CH)) (FS:FN P w K mg base 3 "check_steps" ["thing"] z4S) (FP:MN P w K mg base 1 CW "place" ["self"] (z1Y K CW CH))
  (FL:MN P w K mg base 1 CW "__len__" ["self"] (z5h K CW CH)) (FT:MN P w K mg base 6 CW "step" ["self"] (z4M K CW CH)) (FE:MN P w K mg base 1 CW "end" ["self"] (z3D K CW CH)) (FO:MN P w K mg base 1 CW "told" ["self"] (z1V K CW CH)):FN P w K mg base 13 "run" ["code","names","steps"] (z6M K):=by
 refine FN.o D z1e fun f cdv A outer s H vs Q E hr h=>?_
 obtain ⟨l,d,as,rs,kvs,steps,e,sd,n,rfl,hl,hR,hc,hd,hn,hs,hrun,q⟩:=h
 have hr1:=hr.mono (show 1≤12 by decide)
 have hr2:=hr.mono (show 2≤12 by decide)
 obtain ⟨fL,fdL,hmL,hbL,FL'⟩:=FL
 have lenR:=J1 (X:=(cxOf CX0 P w K mg base ["code","names","steps","walk"] "run" (zd (top 104)) f cdv A outer s H E).nox) hmL.at_ hmL.fn FL' hr2.in1 hbL
 refine ⟨_,zb (zx (i:=3) z1e.nd rfl (Or.inl rfl) (z3R FI hr rfl hmW (z6 (pv 0) (z6 (pv 1) z8))))
  (zb (zH (zu FS (hr.mono (by decide)) rfl (z6 (pv 2) z8)))
  (zb (ZJ PassesOwn.never (PW.pt (ZV (zn Zg (Jl (pv 3) c.cl FP hr1) zF (zt _)) (jO (zn z3W (zl lenR rfl G.len zR (z6 (pv 3) z8)) (pv 2) (zt _)))))
   (zf (zH (Jl (pv 3) c.cl FT (hr.mono (by decide))))))
  (zf (zk (zB (z6 (Jl (pv 3) c.cl FE hr1) (z6 (Jl (pv 3) c.cl FO hr1) (z6 (zl lenR rfl G.len zR (z6 (pv 3) z8)) z8)))))))),?_⟩
 unfold runM at hrun
 cases hfin:jw rs with
 | none=>rw [hfin] at hrun;cases hrun
 | some fin=>
  rw [hfin] at hrun
  dsimp only at hrun
  cases hcm:j4 rs 0 200 0 [] with
  | none=>rw [hcm] at hrun;cases hrun
  | some pg0=>
   obtain ⟨p0,g0⟩:=pg0
   rw [hcm] at hrun
   dsimp only at hrun
   cases hlp:Z0 rs steps 500 ⟨[],kvs,[]⟩ g0 [] [.str "on"] (some p0) with
   | none=>rw [hlp] at hrun;cases hrun
   | some fin2=>
    obtain ⟨mE,pasE,eE⟩:=fin2
    rw [hlp] at hrun
    injection hrun with hrun
    injection hrun with z1 z2
    injection z2 with z2 z3
    subst z1 z2 z3
    refine ⟨_,rfl,_,rfl,fun x dx hx hdx ndx=>?_⟩
    have sA:=zg hdx (.own x)
    have hx':(upd H dx (.own x)) x=none:=by rw [ze ndx.symm];exact hx
    have sB:=sA.trans (zg hx' (.ins CW dx []))
    refine ⟨x,l,d,dx,as,rs,fin,kvs,200,p0,g0,H,rfl,z7,hx,sB,sB _ _ hl,hR.same sB,hc,hfin,sB _ _ hd,hn,hcm,fun a0 H1 hw W=>⟨rfl,?_⟩⟩
    subst hw
    refine ⟨_,rfl,steps,rfl,hs,?_⟩
    refine ⟨fun k σ H2=>∃a m gs pas e here,a.wk=a0.wk∧σ=[some (.ref l),some (.ref d),some (.int (steps:Nat)),some (.ref a0.wk)]∧zQ K H H2 CW CH a rs m gs pas e here∧Z0 rs steps k m gs pas e here=some (mE,pasE,eE)∧pas.length≤1001,⟨500,a0,_,_,_,_,_,rfl,rfl,W,hlp,by show 0≤1001;decide⟩,?_⟩
    clear W hlp
    rintro k σ H2 ⟨a,m,gs,pas,e,here,hwk,rfl,W,hlp,hpl⟩
    rw [←hwk]
    obtain ⟨ea,i1,i2⟩:=W.ins
    have done:(m,pas,e)=(mE,pasE,eE)→tRet (tTup (z06 (z1a CW "end" (z3D K CW CH) [] E0 (tVar 3) tNil) (z06 (z1a CW "told" (z1V K CW CH) [] E0 (tVar 3) tNil) (z06 (tCB (fun xs H Q=>∃a dx fs,xs=[.ref a]∧H a=some (.ins CW dx fs)∧z5h K CW CH [.ref a] H (fun v H1=>∃n:Nat,v=.int n∧n≤1000000∧Q (.int n) H1) E0) (z06 (tVar 3) tNil)) tNil))))
      { nx:=fun _ H'=>Q .non H',rt:=Q } [some (.ref l),some (.ref d),some (.int (steps:Nat)),some (.ref a.wk)] H2:=by
     intro he
     injection he with h1 h2
     injection h2 with h2 h3
     subst h1 h2 h3
     refine ⟨_,rfl,a.wk,a.dw,_,rfl,i1,rfl,a,H,rs,m,gs,pas,e,here,W,rfl,fun ea' hea=>?_⟩
     refine ⟨_,rfl,a.wk,a.dw,_,rfl,i1,rfl,a,H,rs,m,gs,pas,e,here,W,rfl,fun tl htl=>?_⟩
     have st:=zg htl (.lst m.sd)
     refine ⟨_,rfl,a.wk,a.dw,_,rfl,st _ _ i1,a,H,rs,m,gs,pas,e,here,W.same' st,rfl,pas.length,rfl,by lia,by show 3≤sizeLine;decide,fun t ht=>?_⟩
     have st2:=zg ht (.tup [.ref ea',.ref tl,.int (pas.length:Nat)])
     exact q t ea' tl _ ((W.same.trans st).trans st2) z7 (qJ st2 (qJ st hea)) (st2 _ _ z7)
    refine ⟨_,rfl,a.wk,a.dw,_,rfl,i1,rfl,a,H,rs,m,gs,pas,e,here,W,rfl,rfl,_,rfl,?_⟩
    cases here with
    | none=>
     have he:some (m,pas,e)=some (mE,pasE,eE):=by unfold Z0 at hlp;exact hlp
     exact iteF (iteF (done (kB he)))
    | some p=>
     refine iteT ⟨_,rfl,a.wk,a.dw,_,rfl,i1,a,H,rs,m,gs,pas,e,some p,W,rfl,pas.length,rfl,by lia,_,rfl,_,_,rfl,rfl,_,rfl,?_⟩
     by_cases hlt:pas.length < steps
     ·rw [ki (show ((pas.length:Nat):Int) < ((steps:Nat):Int) by lia)]
      cases k with
      | zero=>unfold Z0 at hlp;rw [kA hlt] at hlp;cases hlp
      | succ k=>
       unfold Z0 at hlp
       rw [kA hlt] at hlp
       by_cases heo:e=[.str "on"]
       case neg=>rw [kz heo] at hlp;cases hlp
       rw [kA heo] at hlp
       subst heo
       cases hst:J9 rs m gs pas p with
       | none=>rw [hst] at hlp;cases hlp
       | some r=>
        obtain ⟨m',gs',pas',e',here'⟩:=r
        rw [hst] at hlp
        dsimp only at hlp
        refine iteT ⟨fun σ' H'=>∃a1 m gs pas e here,a1.wk=a.wk∧σ'=[some (.ref l),some (.ref d),some (.int (steps:Nat)),some (.ref a.wk)]∧zQ K H H' CW CH a1 rs m gs pas e here∧Z0 rs steps k m gs pas e here=some (mE,pasE,eE)∧pas.length≤1001,fun σ' H' h=>⟨k,ya _,h⟩,?_⟩
        exact ⟨_,rfl,a.wk,a.dw,_,rfl,i1,rfl,a,H,rs,m,gs,pas,p,m',gs',pas',e',here',rfl,W,hst,fun a' H' ha W'=>⟨a',m',gs',pas',e',here',ha,rfl,W',hlp,z3A hst⟩⟩
     ·rw [kh (show ¬((pas.length:Nat):Int) < ((steps:Nat):Int) by lia)]
      have he:some (m,pas,e)=some (mE,pasE,eE):=by
       cases k with
       | zero=>unfold Z0 at hlp;rw [kz hlt] at hlp;exact hlp
       | succ k=>unfold Z0 at hlp;rw [kz hlt] at hlp;exact hlp
      exact iteF (done (kB he))
end
set_option maxHeartbeats 8000000
theorem PE.or {X:Cx} {e:Expr} {t t':TE} (h:PE X e t) (h':PE X e t'):PE X e (fun σ H Q=>t σ H Q∨t' σ H Q):=fun pins s σ H Q I q=>q.elim (fun q=>h pins s σ H Q I q) fun q=>h' pins s σ H Q I q
section
structure BadC (rs:List Row):Prop where
 code:Code rs
 lack:∃r w0 ws,rs[0]?=some r∧Zt rs 0 r 0 none=w0 :: ws∧w0.length≤20
def Ja (CU:Addr):Sp:=fun vs H Q E=>∃l as rs,vs=[.ref l]∧H l=some (.lst (as.map V.ref))∧zL H as rs∧BadC rs∧∀H',Same H H'→E (.ref CU) none H'
theorem z1x {CU:Addr} (D:zm K mg "states" (top 59)) (mU:mg "Unsound"=some (.ref CU)) (cU:PySem.W.excIn K CU rtM "RuntimeError.__new__"=true) (FC:FN P w K mg base 9 "check_code" ["thing"] z0a) (FS:FN P w K mg base 8 "searched" ["code"] (ZS K)):FNX P w K mg base 10 "states" ["code"] (Ja CU):=by
 refine FNX.of D sc59 (fun _ _ _ _ _ _=>zU1 fun _=>rfl) (fun vs H Q E h=>by obtain ⟨l,as,rs,rfl,_⟩:=h;rfl) (fun f cdv A outer s H vs Q E hr h=>?_)
 obtain ⟨l,as,rs,rfl,hl,hR,⟨hc,r,w0,ws,hr0,hw,hz⟩,q⟩:=h
 refine ⟨_,zb (zH (zu FC hr rfl (z6 (pv 0) z8)))
  (zb (qO (zu FS (hr.mono (by decide)) rfl (z6 (pv 0) z8)) (qU rfl (zp (zw (i:=1) sc59.nd rfl (Or.inl rfl)) (zp (zw (i:=2) sc59.nd rfl (Or.inl rfl)) qh))))
  (zb (zJ (zn Zg (pv 2) zF (zt _)) (zf (QI qa rfl rfl rfl mU cU (z6 (z5t (.cons zo (.cons (z72 (zS qp (pv 2) zh (fun _ _=>rfl))) .nil))) z8))) zq) (zf (zk (pv 1))))),?_⟩
 refine ⟨_,rfl,l,as,rs,rfl,hl,hR,hc,fun H1 s1=>?_⟩
 refine ⟨_,rfl,l,as,rs,r,w0,ws,rfl,SqL.of (s1 _ _ hl),hR.same s1,hc,hr0,hw,fun t fl u x H2 s2 h1 h2=>?_⟩
 refine ⟨t,_,rfl,SqT.of h1,rfl,_,_,rfl,_,_,rfl,rfl,?_⟩
 refine ⟨_,rfl,rfl,_,rfl,iteT ?_⟩
 have hz2:(Str.empty++("not sound: ":Str)++w0).length≤sizeLine:=by
  rw [Str.length_append,show (Str.empty++("not sound: ":Str)).length=11 by trivial,sizeLine_eq]
  lia
 refine ⟨_,rfl,by trivial,_,rfl,u,_,_,_,rfl,rfl,SqT.of h2,zr (j:=0) rfl,_,.str _ (ku hz (by decide)),_,rfl,hz2,hz2,by show 1≤sizeLine;decide,q H2 (s1.trans s2)⟩
def INX (P:Program) (w:World) (K:ky) (mg:Str→Option Value) (base:Heap) (k:Nat) (C:Addr) (ps:List Str) (sp:Sp):Prop:=∃f fd,Mk K C f∧jG K fd ps []∧FnOk P w K mg base (CXF P w) k f fd ps sp
theorem INX.of {C:Addr} {qual:Str} {st:Stmt} {N ps:List Str} {sp:Sp} {k:Nat} (D:HasI K C qual st) (S:zj N ps (zd st))
  (hb:∀(kV doc pm:Value) (an:Option Addr) (cdv ct:Value) (us:List Value),us.length=ps.length→bindArgs (PySem.W.fnOf "__init__" qual (qx st) (zE st) (zd st) .none kV doc pm an cdv ct) ⟨us,[]⟩=pure (ps.zip us))
  (len:∀vs H Q E,sp vs H Q E→vs.length=ps.length)
  (hbody:∀(f:Addr) (cdv:Value) (A:Around) (outer:List Env) (s:Shared) (H:Hp) (vs:List V) (Q:VK) (E:XK),Room k (A.deeper (envOfC qual (zd st) s.heap.objs.size f cdv))→sp vs H Q E→
   ∃t,PSs (cxOf (CXF P w) P w K mg base N qual (zd st) f cdv A outer s H E) (zE st) t∧t { nx:=fun _ H'=>Q .non H',rt:=Q } (L2.qT N vs) H):INX P w K mg base (k+1) C ps sp:=by
 obtain ⟨f,fd,F,m⟩:=D
 refine ⟨f,fd,m,F.binds hb,?_⟩
 obtain ⟨oc,od,kV,doc,pm,an,cdv,ct,osl,rfl,lk,hcd⟩:=F.ex
 exact z5Y lk hcd S len fun A outer s H vs Q E hr hsp=>hbody f cdv A outer s H vs Q E hr hsp
end
section
variable {X:Cx} {k:Nat} {C:Addr} {x:Str} {ps:List Str} {sp:Sp} {p pos:Pos} {e:Expr} {es:List Expr} {t:TA} {E:XK}
theorem z2p (F:INX X.prog X.w X.K X.mg X.base k C ps sp) (hr:Room (k+1) X.A) (T:QB X E) (hx:X.ex=[]) (hg:Gl X x) (hm:X.mg x=some (.ref C)) (ha:PA X (e :: es) t) (hdb:autoParam ((x == ("__debug__":Str))=false) aR._auto_2)
  (he:autoParam (starEach (e :: es) X.env=(false,eval e X.env) :: starEach es X.env) aR._auto_1) (hpl:autoParam ((backTo pos (starEach es X.env)).any (·.1)=false) aR._auto_1):
  PE X (.Call (.Name x p) (e :: es) [] pos) (z59 C sp [] E t):=by
 obtain ⟨f,fd,M,hb,F⟩:=F
 exact z2o M F hr hg hm hb .nil (T.pass hx fun _ _ h=>h) ha hdb he hpl
end
section
variable {CW CH:Addr}
def QF (CU:Addr):Sp:=fun vs H Q E=>∃x l nm as rs,vs=[x,.ref l,nm]∧H l=some (.lst (as.map V.ref))∧zL H as rs∧BadC rs∧∀H',Same H H'→E (.ref CU) none H'
theorem z48 {CU:Addr} (D:HasI K CW "Walk.__init__" (mW 0)) (FS:FNX P w K mg base 10 "states" ["code"] (Ja CU)):INX P w K mg base 11 CW ["self","code","names"] (QF CU):=by
 refine INX.of D scW0 (fun _ _ _ _ _ _=>zU3 fun _ _ _=>rfl) (fun vs H Q E h=>by obtain ⟨x,l,nm,as,rs,rfl,_⟩:=h;rfl) (fun f cdv A outer s H vs Q E hr h=>?_)
 obtain ⟨x,l,nm,as,rs,rfl,hl,hR,hB,q⟩:=h
 refine ⟨_,zb (zH (Qo FS hr qa rfl rfl (z6 (pv 1) z8))) zP,?_⟩
 exact ⟨_,rfl,l,as,rs,rfl,hl,hR,hB,q⟩
def z4U (N:Hp→V→Prop) (CN:Addr):Sp:=fun vs H Q E=>∃x,vs=[x]∧N H x∧∀H',Same H H'→E (.ref CN) none H'
def QE (K:ky) (N:Hp→V→Prop) (CN:Addr):Sp:=fun vs H Q E=>∃x l nm as rs fin,vs=[x,.ref l,nm]∧H l=some (.lst (as.map V.ref))∧zL H as rs∧Code rs∧jw rs=some fin∧N H nm∧∀H',Same H H'→E (.ref CN) none H'
theorem z47 {N:Hp→V→Prop} {CN:Addr} (hN:∀H H' x,N H x→Same H H'→N H' x) (D:HasI K CW "Walk.__init__" (mW 0)) (FS:FN P w K mg base 10 "states" ["code"] (QD K)) (FN':FNX P w K mg base 5 "check_names" ["thing"] (z4U N CN)):INX P w K mg base 11 CW ["self","code","names"] (QE K N CN):=by
 refine INX.of D scW0 (fun _ _ _ _ _ _=>zU3 fun _ _ _=>rfl) (fun vs H Q E h=>by obtain ⟨x,l,nm,as,rs,fin,rfl,_⟩:=h;rfl) (fun f cdv A outer s H vs Q E hr h=>?_)
 obtain ⟨x,l,nm,as,rs,fin,rfl,hl,hR,hc,hfin,hn,q⟩:=h
 refine ⟨_,zb (zH (zu FS hr rfl (z6 (pv 1) z8))) (zb (zH (Qo FN' (hr.mono (by decide)) qa rfl rfl (z6 (pv 2) z8))) zP),?_⟩
 refine ⟨_,rfl,l,as,rs,fin,rfl,hl,hR,hc,hfin,fun fl fvs H1 s1 _ _ _=>?_⟩
 exact ⟨_,rfl,nm,rfl,hN _ _ _ hn s1,fun H2 s2=>q H2 (s1.trans s2)⟩
end
def SeqV (H:Hp) (x:V):Prop:=∃a xs,x=.ref a∧(H a=some (.tup xs)∨H a=some (.lst xs))
theorem SeqV.same {H H':Hp} {x:V} (h:SeqV H x) (s:∀b o,H b=some o→H' b=some o):SeqV H' x:=by
 obtain ⟨a,xs,rfl,h⟩:=h
 exact ⟨a,xs,rfl,h.elim (fun h=>.inl (s _ _ h)) fun h=>.inr (s _ _ h)⟩
theorem SeqV.keep {H H':Hp} {x:V} (h:SeqV H x) (s:∀b o,H b=some o→(∀kvs,o≠.dK kvs)→H' b=some o):SeqV H' x:=by
 obtain ⟨a,xs,rfl,h⟩:=h
 exact ⟨a,xs,rfl,h.elim (fun h=>.inl (s _ _ h nofun)) fun h=>.inr (s _ _ h nofun)⟩
theorem SeqV.ty {H:Hp} {K:ky} {x:V} (h:SeqV H x):∃t,TyOf K H x t∧PySem.W.kitOne K t (.type "int")=some false∧PySem.W.kitOne K t (.type "bool")=some false∧PySem.W.kitOne K t (.type "str")=some false:=by
 obtain ⟨a,xs,rfl,h | h⟩:=h
 ·exact ⟨_,.tup h,rfl,rfl,rfl⟩
 ·exact ⟨_,.lst h,rfl,rfl,rfl⟩
def Val (H:Hp) (x:V):Prop:=Scal x∨SeqV H x
theorem Val.same {H H':Hp} {x:V} (h:Val H x) (s:∀b o,H b=some o→H' b=some o):Val H' x:=h.elim .inl fun h=>.inr (h.same s)
theorem SeqV.value {H:Hp} {x:V} {m:Int} (h:SeqV H x):j6 x m=false:=by
 obtain ⟨a,xs,rfl,_⟩:=h
 rfl
section
def spR1:Sp:=fun vs H Q _=>∃x,vs=[x]∧SeqV H x∧Q (.bl false) H
def spR2:Sp:=fun vs H Q _=>∃x m,vs=[x,.int m]∧SeqV H x∧Q (.bl false) H
def spR3:Sp:=fun vs H Q _=>∃x lo hi,vs=[x,.int lo,.int hi]∧SeqV H x∧Q (.bl false) H
theorem z5Z (D:zm K mg "is_number" (top 18)) (G:Glo mg):FN P w K mg base 1 "is_number" ["thing"] spR1:=by
 refine FN.o D sc18 fun f cdv A outer s H vs Q E hr h=>?_
 obtain ⟨x,rfl,hx,q⟩:=h
 obtain ⟨t,ty,k1,k2,k3⟩:=hx.ty (K:=K)
 refine ⟨_,zf (zk (qj (zl zy rfl G.isinstance zi (z6 (pv 0) (z6 (qQ "int" rfl G.int J3) z8)))
  (qm (z0O (zl zy rfl G.isinstance zi (z6 (pv 0) (z6 (qQ "bool" rfl G.bool qL) z8))))))),?_⟩
 exact ⟨_,rfl,_,"int",t,_,rfl,ty,k1,_,rfl,iteF q⟩
theorem z1v (D:zm K mg "is_number_within" (top 19)) (F1:FN P w K mg base 1 "is_number" ["thing"] spR1):FN P w K mg base 2 "is_number_within" ["thing","low","high"] spR3:=by
 refine FN.o D sc19 fun f cdv A outer s H vs Q E hr h=>?_
 obtain ⟨x,lo,hi,rfl,hx,q⟩:=h
 refine ⟨_,zf (zk (qj (zu F1 hr rfl (z6 (pv 0) z8)) (qm (jI Zh Zh (pv 1) (pv 0) (pv 2))))),?_⟩
 exact ⟨_,rfl,x,rfl,hx,_,rfl,iteF q⟩
theorem z0q (D:zm K mg "is_letters" (top 20)) (G:Glo mg):FN P w K mg base 1 "is_letters" ["thing","most"] spR2:=by
 refine FN.o D sc20 fun f cdv A outer s H vs Q E hr h=>?_
 obtain ⟨x,most,rfl,hx,q⟩:=h
 obtain ⟨t,ty,k1,k2,k3⟩:=hx.ty (K:=K)
 refine ⟨_,zf (zk (qj (zl zy rfl G.isinstance zi (z6 (pv 0) (z6 (qQ "str" rfl G.str jK) z8)))
  (qj (jI Zh Zh zh (zl jb rfl G.len zR (z6 (pv 0) z8)) (pv 1))
  (qj (Qp F.plainAttrs_str F.slot_str_isascii F.type_str_isascii Qq (pv 0))
  (qm (Qp F.plainAttrs_str F.slot_str_isalpha F.type_str_isalpha Qr (pv 0))))))),?_⟩
 exact ⟨_,rfl,_,"str",t,_,rfl,ty,k3,_,rfl,iteF q⟩
theorem z37 (D:zm K mg "is_kind" (top 22)) (G:Glo mg) (F1:FN P w K mg base 1 "is_letters" ["thing","most"] spR2):FN P w K mg base 2 "is_kind" ["thing"] spR1:=by
 refine FN.o D sc22 fun f cdv A outer s H vs Q E hr h=>?_
 obtain ⟨x,rfl,hx,q⟩:=h
 refine ⟨_,zf (zk (zu F1 hr rfl (z6 (pv 0) (z6 (qt rfl G.kind) z8)))),?_⟩
 exact ⟨_,rfl,x,8,rfl,hx,q⟩
theorem z30 (D:zm K mg "is_value_within" (top 24)) (G:Glo mg) (F1:FN P w K mg base 2 "is_number_within" ["thing","low","high"] spR3) (F2:FN P w K mg base 2 "is_kind" ["thing"] spR1):FN P w K mg base 3 "is_value_within" ["thing","most"] spR2:=by
 refine FN.o D sc24 fun f cdv A outer s H vs Q E hr h=>?_
 obtain ⟨x,most,rfl,hx,q⟩:=h
 obtain ⟨t,ty,k1,k2,k3⟩:=hx.ty (K:=K)
 refine ⟨_,zb (zJ (PW.pt (jx (zn jX (pv 0) zF (zt _)) (j9 (zX (zl zy rfl G.isinstance zi (z6 (pv 0) (z6 (qQ "bool" rfl G.bool qL) z8))))))) (zf (zk qV)) zq)
  (zf (zk (z3P (zu F1 hr rfl (z6 (pv 0) (z6 (jP qS (pv 1)) (z6 (pv 1) z8)))) (qm (zu F2 hr rfl (z6 (pv 0) z8)))))),?_⟩
 refine ⟨_,rfl,rfl,_,rfl,?_⟩
 rw [kh (show ¬x=.non by obtain ⟨a,xs,rfl,_⟩:=hx;exact nofun)]
 refine iteF ⟨_,rfl,_,"bool",t,_,rfl,ty,k2,_,rfl,iteF ?_⟩
 exact ⟨_,rfl,_,rfl,most,rfl,_,rfl,x,-most,most,rfl,hx,_,rfl,iteF ⟨_,rfl,x,rfl,hx,q⟩⟩
def z4G (k:Key):Prop:=∀z,k=Sum.inr z→z.length≤sizeLine
theorem z4G.scal {k:Key} (h:z4G k):Scal (kV k):=by
 cases k with
 | inl i=>exact .int i
 | inr z=>exact .str z (h z rfl)
noncomputable def gdN (p:Key × V):Bool:=jh (kV p.1)&&j6 p.2 1000000000000000000
inductive ji (H:Hp):V→Bool→Prop
 | non:ji H .non false
 | str (z:Str):ji H (.str z) false
 | lst {a:Addr} {xs:List V} (h:H a=some (.lst xs)):ji H (.ref a) false
 | tup {a:Addr} {xs:List V} (h:H a=some (.tup xs)):ji H (.ref a) false
 | many {d:Addr} {kvs:List (Key × V)} (h:H d=some (.dK kvs)) (hl:8 < kvs.length):ji H (.ref d) false
 | dct {d:Addr} {kvs:List (Key × V)} (h:H d=some (.dK kvs)) (hl:kvs.length≤8) (hk:∀p∈kvs,z4G p.1∧Val H p.2):ji H (.ref d) (kvs.all gdN)
theorem ji.same {H H':Hp} {x:V} {g:Bool} (h:ji H x g) (s:Same H H'):ji H' x g:=by
 cases h with
 | non=>exact .non
 | str z=>exact .str z
 | lst h=>exact .lst (s _ _ h)
 | tup h=>exact .tup (s _ _ h)
 | many h hl=>exact .many (s _ _ h) hl
 | dct h hl hk=>exact .dct (s _ _ h) hl fun p hp=>⟨(hk p hp).1,(hk p hp).2.same s⟩
theorem ji.names {H:Hp} {x:V} (h:ji H x true):∃d kvs,x=.ref d∧H d=some (.dK kvs)∧Zq kvs:=by
 generalize hg:true=g at h
 cases h with
 | non=>cases hg
 | str z=>cases hg
 | lst h=>cases hg
 | tup h=>cases hg
 | many h hl=>cases hg
 | @dct d kvs h hl hk=>
  refine ⟨d,kvs,rfl,h,hl,fun p hp=>?_⟩
  have hg':=List.all_eq_true.mp hg.symm p hp
  unfold gdN at hg'
  rw [yc] at hg'
  obtain ⟨k1,k2⟩:=hk p hp
  obtain ⟨k,v⟩:=p
  cases k with
  | inl i=>exact absurd hg'.1 (by intro z;cases z)
  | inr z=>
   refine ⟨z,rfl,k1 z rfl,hg'.1,?_,hg'.2⟩
   rcases k2 with k2 | k2
   ·exact k2
   ·rw [k2.value] at hg'
    cases hg'.2
def z0I:Sp:=fun vs H Q _=>∃x g,vs=[x]∧ji H x g∧∀H',Same H H'→Q (.bl g) H'
theorem z35 (D:zm K mg "is_names" (top 80)) (G:Glo mg) (F1:FN P w K mg base 2 "is_name" ["thing"] (sp1 jh)) (F2:FN P w K mg base 3 "is_value_within" ["thing","most"] ZR) (F3:FN P w K mg base 3 "is_value_within" ["thing","most"] spR2):FN P w K mg base 4 "is_names" ["thing"] z0I:=by
 refine FN.o D sc80 fun f cdv A outer s H vs Q E hr h=>?_
 obtain ⟨x,g,rfl,hx,q⟩:=h
 obtain ⟨u1,m1,r1⟩:=G.made
 refine ⟨_,zb (zJ (PW.pt (jx (qw (zX (zl zy rfl G.isinstance zi (z6 (pv 0) (z6 (qQ "dict" rfl G.dict qY) z8)))))
   (j9 (zn z0i (zl Q7 rfl G.len zR (z6 (pv 0) z8)) (qt rfl G.names) (zt _))))) (zf (zk qV)) zq)
  (zf (zk (zl (jp rfl) rfl G.all J4 (z6 (QL (N:=["name","value"]) (nt:=2) (ix:=[]) (cl:=[]) rfl (qA.plain (by trivial) (by trivial) rfl (by trivial) rfl) (pv 0)
   (fun _ _ _ _=>Zf (K:=K) (n:=2) rfl rfl (zp (zw (i:=0) ndnv rfl (Or.inl rfl)) (zp (zw (i:=1) ndnv rfl (Or.inl rfl)) qh)))
   (fun _ _ _ _=>Zc)
   (fun _ _ _ _=>qj (zu F1 (hr.mono (by decide)) rfl (z6 (pv 0) z8)) (qm (PE.or (zu F2 hr rfl (z6 (pv 1) (z6 (zA rfl m1 r1) z8))) (zu F3 hr rfl (z6 (pv 1) (z6 (zA rfl m1 r1) z8))))))) z8)))),?_⟩
 cases hx with
 | non=>exact ⟨_,rfl,_,"dict",_,false,rfl,.non,rfl,_,rfl,iteT (q _ (Same.refl _))⟩
 | str z=>exact ⟨_,rfl,_,"dict",_,false,rfl,.str z,rfl,_,rfl,iteT (q _ (Same.refl _))⟩
 | lst h=>exact ⟨_,rfl,_,"dict",_,false,rfl,.lst h,rfl,_,rfl,iteT (q _ (Same.refl _))⟩
 | tup h=>exact ⟨_,rfl,_,"dict",_,false,rfl,.tup h,rfl,_,rfl,iteT (q _ (Same.refl _))⟩
 | @many d kvs hd hl=>
  refine ⟨_,rfl,_,"dict",_,true,rfl,.dK hd,rfl,_,rfl,iteF ?_⟩
  refine ⟨_,rfl,d,kvs,rfl,hd,_,_,rfl,rfl,_,rfl,?_⟩
  rw [ki (show ((8:Int) < (kvs.length:Int)) by lia)]
  exact iteT (q _ (Same.refl _))
 | @dct d kvs hd hn hall=>
 refine ⟨_,rfl,_,"dict",_,true,rfl,.dK hd,rfl,_,rfl,iteF ?_⟩
 refine ⟨_,rfl,d,kvs,rfl,hd,_,_,rfl,rfl,_,rfl,?_⟩
 rw [kh (show ¬((8:Int) < (kvs.length:Int)) by lia)]
 refine iteF ⟨_,rfl,d,kvs,rfl,hd,fun o l hl=>?_⟩
 refine Zp (Q:=fun x H1=>∃(p:Addr) (bs:List Bool),[x]=[V.ref p]∧SqL K H1 p (bs.map V.bl)∧Q (V.bl (bs.all id)) H1) (fun i ys σ H2=>(∃a b,σ=[a,b])∧ys=((kvs.take i).map gdN).map V.bl∧H2 l=some (.lst ys)∧H2 d=some (.frz o (.dK kvs))∧∀b o,H b=some o→b≠d→H2 b=some o) ⟨⟨none,none,rfl⟩,rfl,z7,?_,?_⟩ (fun i ys σ H2 h=>h.2.2.2.1) ?_ ?_
 ·rw [ze (zc hd hl)];exact z7
 ·intro b o e hb
  rw [ze (zc e hl),ze hb];exact e
 ·rintro i p k v ys σ H2 hi ⟨⟨a,b,rfl⟩,rfl,hl2,hd2,kp⟩ hp
  obtain ⟨h1,h2⟩:=hall (k,v) (kG hi)
  have hil:=(kf.mp hi).1
  have npl:l≠p:=zc hl2 hp
  have npd:d≠p:=zc hd2 hp
  refine ⟨p,_,rfl,SqT.of z7,rfl,_,_,rfl,_,_,rfl,rfl,?_⟩
  refine Z8 ⟨_,rfl,_,rfl,h1.scal,_,rfl,?_⟩
  have hsz:(((kvs.take i).map gdN).map V.bl).length < sizeLine:=by rw [kj,kj,List.length_take];exact zV (by lia)
  have hys:((kvs.take i).map gdN).map V.bl++[V.bl (gdN (k,v))]=((kvs.take (i+1)).map gdN).map V.bl:=by rw [qI hi,kJ,kJ];rfl
  have hl3:(upd H2 p (.tup [kV k,v])) l=some (.lst (((kvs.take i).map gdN).map V.bl)):=by rw [ze npl];exact hl2
  have hd3:∀o',upd (upd H2 p (.tup [kV k,v])) l o' d=some (.frz o (.dK kvs)):=fun o'=>by rw [ze (zc hd hl),ze npd];exact hd2
  have kp3:∀o' b o,H b=some o→b≠d→upd (upd H2 p (.tup [kV k,v])) l o' b=some o:=fun o' b o e hb=>by rw [ze (zc e hl),ze (zc (kp _ _ e hb) hp)];exact kp _ _ e hb
  by_cases c:jh (kV k)=true
  ·rw [c]
   have eg:gdN (k,v)=j6 v 1000000000000000000:=by unfold gdN;rw [c];rfl
   rw [eg] at hys
   refine iteT ?_
   rcases h2 with h2 | h2
   ·exact .inl ⟨_,rfl,_,_,rfl,h2,hl3,hsz,_,by lia,rfl,by lia,⟨_,_,rfl⟩,hys,z7,hd3 _,kp3 _⟩
   ·rw [h2.value] at hys
    exact .inr ⟨_,rfl,_,_,rfl,h2.keep (fun b o e hne=>by
     have z:b≠d:=fun z=>by rw [z,hd] at e;cases e;exact hne _ rfl
     rw [ze (zc (kp _ _ e z) hp)]
     exact kp _ _ e z),hl3,hsz,_,by lia,rfl,by lia,⟨_,_,rfl⟩,hys,z7,hd3 _,kp3 _⟩
  ·have c:=Bool.eq_false_iff.mpr c
   rw [c]
   have eg:gdN (k,v)=false:=by unfold gdN;rw [c];rfl
   rw [eg] at hys
   exact iteF ⟨hl3,hsz,_,by lia,rfl,by lia,⟨_,_,rfl⟩,hys,z7,hd3 _,kp3 _⟩
 ·rintro ys σ H2 ⟨_,rfl,hl2,hd2,kp⟩
  have nld:l≠d:=(zc hd hl).symm
  rw [List.take_length] at hl2
  refine ⟨l,kvs.map gdN,rfl,SqL.of ?_,?_⟩
  ·rw [ze nld,hl2]
  ·have e:(kvs.map gdN).all id=kvs.all gdN:=by rw [List.all_map];rfl
   rw [e]
   refine q _ fun b o e=>?_
   by_cases z:b=d
   ·subst z
    rw [hd] at e
    cases e
    exact z7
   ·rw [ze z];exact kp _ _ e z
def z25 (CS:Addr):Sp:=fun vs H Q E=>∃x,vs=[x]∧Scal x∧qg x 0 100000=false∧E (.ref CS) none H
theorem z4w {CS:Addr} (D:zm K mg "check_steps" (top 82)) (G:Glo mg) (mS:mg "BadNumber"=some (.ref CS)) (cS:PySem.W.excIn K CS rtM "RuntimeError.__new__"=true) (F1:FN P w K mg base 2 "is_number_within" ["thing","low","high"] j7):FNX P w K mg base 3 "check_steps" ["thing"] (z25 CS):=by
 refine FNX.of D sc82 (fun _ _ _ _ _ _=>zU1 fun _=>rfl) (fun vs H Q E h=>by obtain ⟨n,rfl,_⟩:=h;rfl) (fun f cdv A outer s H vs Q E hr h=>?_)
 obtain ⟨x,rfl,hx,hw,q⟩:=h
 refine ⟨_,zf (zJ (qw (zX (zu F1 hr rfl (z6 (pv 0) (z6 zh (z6 (qt rfl G.steps) z8)))))) (zf (QI qa rfl rfl rfl mS cS (z6 zo z8))) zq),?_⟩
 refine ⟨_,rfl,x,0,100000,rfl,hx,?_⟩
 rw [hw]
 exact ⟨_,rfl,iteT ⟨by show 1≤sizeLine;decide,q⟩⟩
def z1X (CW:Addr) (sp:Sp):Sp:=fun vs H Q E=>∃l nm st,vs=[l,nm,st]∧∀x dx,H x=none→H dx=none→dx≠x→sp [.ref x,l,nm] (upd (upd H dx (.own x)) x (.ins CW dx [])) (fun _ _=>False) E
theorem z32 {CW:Addr} {sp:Sp} (hsp:∀vs H Q Q' E,sp vs H Q E→(∀v H,Q v H→Q' v H)→sp vs H Q' E) (D:zm K mg "run" (top 104)) (hmW:mg "Walk"=some (.ref CW)) (FI:INX P w K mg base 11 CW ["self","code","names"] sp):FNX P w K mg base 13 "run" ["code","names","steps"] (z1X CW sp):=by
 refine FNX.of D z1e (fun _ _ _ _ _ _=>zU3 fun _ _ _=>rfl) (fun vs H Q E h=>by obtain ⟨l,nm,st,rfl,_⟩:=h;rfl) (fun f cdv A outer s H vs Q E hr h=>?_)
 obtain ⟨l,nm,st,rfl,h⟩:=h
 refine ⟨_,zb (zx (i:=3) z1e.nd rfl (Or.inl rfl) (z2p FI hr qa rfl rfl hmW (z6 (pv 0) (z6 (pv 1) z8)))) zP,?_⟩
 exact ⟨_,rfl,_,rfl,fun x dx hx hdx ndx=>hsp _ _ _ _ _ (h x dx hx hdx ndx) fun _ _ z=>z.elim⟩
def z4O (CS:Addr):Sp:=fun vs H Q E=>∃(l d:Addr) (as:List Addr) (rs:List Row) (fin:Fnd) (kvs:List (Key × V)) (n p':Nat) (gs':List Gd) (x:V),vs=[.ref l,.ref d,x]∧H l=some (.lst (as.map V.ref))∧zL H as rs∧Code rs∧jw rs=some fin∧H d=some (.dK kvs)∧Zq kvs∧j4 rs 0 n 0 []=some (p',gs')∧Scal x∧qg x 0 100000=false∧∀H',Same H H'→E (.ref CS) none H'
theorem z5R {CW CH CS:Addr} (D:zm K mg "run" (top 104)) (hmW:mg "Walk"=some (.ref CW)) (FI:IN P w K mg base 11 CW ["self","code","names"] (z0K K CW CH)) (FS:FNX P w K mg base 3 "check_steps" ["thing"] (z25 CS)):FNX P w K mg base 13 "run" ["code","names","steps"] (z4O CS):=by
 refine FNX.of D z1e (fun _ _ _ _ _ _=>zU3 fun _ _ _=>rfl) (fun vs H Q E h=>by obtain ⟨l,d,as,rs,fin,kvs,n,p',gs',x,rfl,_⟩:=h;rfl) (fun f cdv A outer s H vs Q E hr h=>?_)
 obtain ⟨l,d,as,rs,fin,kvs,n,p',gs',st,rfl,hl,hR,hc,hfin,hd,hn,hcm,hs,hw,q⟩:=h
 refine ⟨_,zb (zx (i:=3) z1e.nd rfl (Or.inl rfl) (z3R FI hr rfl hmW (z6 (pv 0) (z6 (pv 1) z8)))) (zb (zH (Qo FS (hr.mono (by decide)) qa rfl rfl (z6 (pv 2) z8))) zP),?_⟩
 refine ⟨_,rfl,_,rfl,fun x dx hx hdx ndx=>?_⟩
 have sA:=zg hdx (.own x)
 have hx':(upd H dx (.own x)) x=none:=by rw [ze ndx.symm];exact hx
 have sB:=sA.trans (zg hx' (.ins CW dx []))
 refine ⟨x,l,d,dx,as,rs,fin,kvs,n,p',gs',H,rfl,z7,hx,sB,sB _ _ hl,hR.same sB,hc,hfin,sB _ _ hd,hn,hcm,fun a0 H1 hw' W=>⟨rfl,?_⟩⟩
 exact ⟨_,rfl,st,rfl,hs,hw,q H1 W.same⟩
end
def Alt (K:ky) (C c:Addr) (b:Bool):Prop:=(c=C∧b=true)∨(c≠C∧ZC K c=true∧upIn K C c=false∧b=false)
structure Errs (K:ky) (mg:Str→Option Value) (CM c1 c2 c3 c4 c5 c6 c7 c8:Addr):Prop where
 rt:mg "RuntimeError"=none
 m:mg "MillError"=some (.ref CM)
 n1:mg "BadCode"=some (.ref c1)
 n2:mg "BadNames"=some (.ref c2)
 n3:mg "BadNumber"=some (.ref c3)
 n4:mg "Unsound"=some (.ref c4)
 n5:mg "BadOrder"=some (.ref c5)
 n6:mg "BadText"=some (.ref c6)
 n7:mg "BadUnits"=some (.ref c7)
 n8:mg "BadBytes"=some (.ref c8)
 cM:PySem.W.excIn K CM rtM "RuntimeError.__new__"=true
structure Err1 (K:ky) (CM c1 c2 c3 c4 c5 c6 c7 c8 C:Addr) (i:Int):Prop where
 e:PySem.W.excIn K C rtM "RuntimeError.__new__"=true
 q:excQ K C rtM "RuntimeError.__new__"=true
 u:upIn K C CM=true
 a:∃b2 b3 b4,(b2=true∧b3=false∧b4=false∧i=1∨b2=false∧b3=true∧b4=false∧i=2∨b2=false∧b3=false∧b4=true∧i=3)∧Alt K C c1 false∧Alt K C c2 b2∧Alt K C c3 b3∧Alt K C c4 b4∧Alt K C c5 false∧Alt K C c6 false∧Alt K C c7 false∧Alt K C c8 false
theorem z6p:bootBuiltins "RuntimeError"=some (.type "RuntimeError"):=by trivial
section
variable {CM c1 c2 c3 c4 c5 c6 c7 c8:Addr}
def z4K (K:ky) (CM c1 c2 c3 c4 c5 c6 c7 c8:Addr):Sp:=fun vs H Q _=>∃x C i,vs=[.ref x]∧Err1 K CM c1 c2 c3 c4 c5 c6 c7 c8 C i∧H x=some (z1I x (.ref C))∧∀H',Same H H'→Q (.int i) H'
theorem z3G:zj ["_law_caught","_law_kinds"] ["_law_caught"] (zd (top 110)):=fsM
theorem z5J (D:zm K mg "_law_word" (top 110)) (G:Glo mg) (R:Errs K mg CM c1 c2 c3 c4 c5 c6 c7 c8):FN P w K mg base 1 "_law_word" ["_law_caught"] (z4K K CM c1 c2 c3 c4 c5 c6 c7 c8):=by
 refine FN.o D z3G fun f cdv A outer s H vs Q E hr h=>?_
 obtain ⟨x,C,i,rfl,⟨_,q5,_,b2,b3,b4,hb,a1,a2,a3,a4,a5,a6,a7,a8⟩,hx,q⟩:=h
 refine ⟨_,zb (zJ (qw (zX (zl qu rfl G.isinstance zi (z6 (pv 0) (z6 (qQ "RuntimeError" rfl R.rt z6p) z8))))) zP zq)
  (zb (zx (i:=1) z3G.nd rfl (Or.inl rfl) (qe (z6 (zl qu rfl G.isinstance zi (z6 (pv 0) (z6 (zA rfl R.n1 (v:=.ref c1) rfl) z8)))
   (z6 (zl qu rfl G.isinstance zi (z6 (pv 0) (z6 (zA rfl R.n2 (v:=.ref c2) rfl) z8))) (z6 (zl qu rfl G.isinstance zi (z6 (pv 0) (z6 (zA rfl R.n3 (v:=.ref c3) rfl) z8))) z8)))))
  (zb (zx (i:=1) z3G.nd rfl (Or.inl rfl) (zY z0R (pv 1) (qe (z6 (zl qu rfl G.isinstance zi (z6 (pv 0) (z6 (zA rfl R.n4 (v:=.ref c4) rfl) z8)))
   (z6 (zl qu rfl G.isinstance zi (z6 (pv 0) (z6 (zA rfl R.n5 (v:=.ref c5) rfl) z8))) (z6 (zl qu rfl G.isinstance zi (z6 (pv 0) (z6 (zA rfl R.n6 (v:=.ref c6) rfl) z8))) z8))))))
  (zb (zx (i:=1) z3G.nd rfl (Or.inl rfl) (zY z0R (pv 1) (qe (z6 (zl qu rfl G.isinstance zi (z6 (pv 0) (z6 (zA rfl R.n7 (v:=.ref c7) rfl) z8)))
   (z6 (zl qu rfl G.isinstance zi (z6 (pv 0) (z6 (zA rfl R.n8 (v:=.ref c8) rfl) z8))) z8)))))
  (zf (zk (qG (zn qC (z1h PySem.F.plainAttrs_list PySem.F.slot_list_count PySem.F.type_list_count z2A (pv 1) (z6 qV z8)) zh (zt _))
   (z1h PySem.F.plainAttrs_list PySem.F.slot_list_index PySem.F.type_list_index z2z (pv 1) (z6 qV z8)) (jP qS zh))))))),?_⟩
 refine ⟨_,rfl,x,C,.ty "RuntimeError",true,rfl,hx,q5,.inl ⟨rfl,rfl⟩,_,rfl,iteF ?_⟩
 refine ⟨_,rfl,x,C,.ref c1,false,rfl,hx,q5,.inr ⟨c1,rfl,a1⟩,⟨_,rfl,x,C,.ref c2,b2,rfl,hx,q5,.inr ⟨c2,rfl,a2⟩,⟨_,rfl,x,C,.ref c3,b3,rfl,hx,q5,.inr ⟨c3,rfl,a3⟩,by show 3≤sizeLine;decide,fun p hp=>?_⟩⟩⟩
 have s1:=zg hp (.lst [.bl false,.bl b2,.bl b3])
 have hx1:=s1 _ _ hx
 have hp1:upd H p (.lst [.bl false,.bl b2,.bl b3]) p=some (.lst [.bl false,.bl b2,.bl b3]):=z7
 generalize upd H p (.lst [.bl false,.bl b2,.bl b3])=H1 at *
 refine ⟨_,rfl,⟨_,rfl,x,C,.ref c4,b4,rfl,hx1,q5,.inr ⟨c4,rfl,a4⟩,⟨_,rfl,x,C,.ref c5,false,rfl,hx1,q5,.inr ⟨c5,rfl,a5⟩,⟨_,rfl,x,C,.ref c6,false,rfl,hx1,q5,.inr ⟨c6,rfl,a6⟩,by show 3≤sizeLine;decide,fun p2 hp2=>?_⟩⟩⟩⟩
 have s2:=zg hp2 (.lst [.bl b4,.bl false,.bl false])
 refine ⟨p,p2,_,_,rfl,rfl,s2 _ _ hp1,z7,by show 6≤sizeLine;decide,fun p3 hp3=>?_⟩
 have s3:=s2.trans (zg hp3 (.lst ([.bl false,.bl b2,.bl b3]++[.bl b4,.bl false,.bl false])))
 have hx3:=s3 _ _ hx1
 have hp3':upd (upd H1 p2 (.lst [.bl b4,.bl false,.bl false])) p3 (.lst ([.bl false,.bl b2,.bl b3]++[.bl b4,.bl false,.bl false])) p3=some (.lst [.bl false,.bl b2,.bl b3,.bl b4,.bl false,.bl false]):=z7
 have s13:=s1.trans s3
 generalize upd (upd H1 p2 (.lst [.bl b4,.bl false,.bl false])) p3 (.lst ([.bl false,.bl b2,.bl b3]++[.bl b4,.bl false,.bl false]))=H3 at *
 refine ⟨_,rfl,⟨_,rfl,x,C,.ref c7,false,rfl,hx3,q5,.inr ⟨c7,rfl,a7⟩,⟨_,rfl,x,C,.ref c8,false,rfl,hx3,q5,.inr ⟨c8,rfl,a8⟩,by show 2≤sizeLine;decide,fun p4 hp4=>?_⟩⟩⟩
 have s4:=zg hp4 (.lst [.bl false,.bl false])
 refine ⟨p3,p4,_,_,rfl,rfl,s4 _ _ hp3',z7,by show 8≤sizeLine;decide,fun p5 hp5=>?_⟩
 have s5:=s4.trans (zg hp5 (.lst ([.bl false,.bl b2,.bl b3,.bl b4,.bl false,.bl false]++[.bl false,.bl false])))
 have hp5':upd (upd H3 p4 (.lst [.bl false,.bl false])) p5 (.lst ([.bl false,.bl b2,.bl b3,.bl b4,.bl false,.bl false]++[.bl false,.bl false])) p5=some (.lst (([false,b2,b3,b4,false,false,false,false]:List Bool).map V.bl)):=z7
 have s15:=s13.trans s5
 generalize upd (upd H3 p4 (.lst [.bl false,.bl false])) p5 (.lst ([.bl false,.bl b2,.bl b3,.bl b4,.bl false,.bl false]++[.bl false,.bl false]))=H5 at *
 rcases hb with ⟨rfl,rfl,rfl,rfl⟩ | ⟨rfl,rfl,rfl,rfl⟩ | ⟨rfl,rfl,rfl,rfl⟩
 ·refine ⟨_,rfl,.inl ⟨rfl,_,SqL.of hp5'⟩,p5,_,rfl,rfl,hp5',by decide,rfl,true,rfl,iteT ?_⟩
  refine ⟨_,rfl,.inl ⟨rfl,_,SqL.of hp5'⟩,p5,_,1,rfl,rfl,hp5',rfl,fun m hm=>?_,by decide,q _ s15⟩
  match m,hm with
  | 0,_=>rfl
 ·refine ⟨_,rfl,.inl ⟨rfl,_,SqL.of hp5'⟩,p5,_,rfl,rfl,hp5',by decide,rfl,true,rfl,iteT ?_⟩
  refine ⟨_,rfl,.inl ⟨rfl,_,SqL.of hp5'⟩,p5,_,2,rfl,rfl,hp5',rfl,fun m hm=>?_,by decide,q _ s15⟩
  match m,hm with
  | 0,_=>rfl
  | 1,_=>rfl
 ·refine ⟨_,rfl,.inl ⟨rfl,_,SqL.of hp5'⟩,p5,_,rfl,rfl,hp5',by decide,rfl,true,rfl,iteT ?_⟩
  refine ⟨_,rfl,.inl ⟨rfl,_,SqL.of hp5'⟩,p5,_,3,rfl,rfl,hp5',rfl,fun m hm=>?_,by decide,q _ s15⟩
  match m,hm with
  | 0,_=>rfl
  | 1,_=>rfl
  | 2,_=>rfl
noncomputable def Qj:List Str:=["code","names","number","unsound","order","text","units","bytes"]
def z3B:Sp:=fun vs H Q _=>∃(x:Str) (i:Nat),vs=[.str x]∧(x="names"∧i=1∨x="number"∧i=2∨x="unsound"∧i=3)∧∀t H',Same H H'→H' t=some (.tup [.str "refused",.int (i:Nat)])→Q (.ref t) H'
theorem z6S:zj ["_law_word_here","_law_words"] ["_law_word_here"] (zd (top 111)):=fsM
theorem z1J {x:Str} {i:Nat} (h:x="names"∧i=1∨x="number"∧i=2∨x="unsound"∧i=3):Qj[i]?=some x∧∀m,m < i→Qj[m]?≠some x:=by
 have all:∀p∈[(("names":Str),1),("number",2),("unsound",3)],Qj[p.2]?=some p.1∧∀m∈List.range p.2,Qj[m]?≠some p.1:=by trivial
 have:=all (x,i) (by rcases h with ⟨rfl,rfl⟩ | ⟨rfl,rfl⟩ | ⟨rfl,rfl⟩ <;> simp)
 exact ⟨this.1,fun m hm=>this.2 m (List.mem_range.mpr hm)⟩
theorem z5T (D:zm K mg "_law_refused" (top 111)):FN P w K mg base 1 "_law_refused" ["_law_word_here"] z3B:=by
 refine FN.o D z6S fun f cdv A outer s H vs Q E hr h=>?_
 obtain ⟨x,i,rfl,hi,q⟩:=h
 have hw:=z1J hi
 refine ⟨_,zb (zx (i:=1) z6S.nd rfl (Or.inl rfl) (qe (z6 zo (z6 zo (z6 zo (z6 zo (z6 zo (z6 zo (z6 zo (z6 zo z8))))))))))
  (zf (zk (zB (z6 zo (z6 (z1h PySem.F.plainAttrs_list PySem.F.slot_list_index PySem.F.type_list_index z2y (pv 1) (z6 (pv 0) z8)) z8))))),?_⟩
 refine ⟨by show 8≤sizeLine;decide,fun p hp=>?_⟩
 have s1:=zg hp (.lst [.str "code",.str "names",.str "number",.str "unsound",.str "order",.str "text",.str "units",.str "bytes"])
 have hp1:upd H p (.lst [.str "code",.str "names",.str "number",.str "unsound",.str "order",.str "text",.str "units",.str "bytes"]) p=some (.lst (Qj.map V.str)):=z7
 refine ⟨_,rfl,.inl ⟨rfl,_,SqL.of hp1⟩,_,rfl,p,Qj,x,i,rfl,rfl,hp1,hw.1,hw.2,by decide,by show 2≤sizeLine;decide,fun t ht=>?_⟩
 exact q t _ (s1.trans (zg ht _)) z7
def z23 (K:ky) (CM c1 c2 c3 c4 c5 c6 c7 c8:Addr) (sp:Sp):Sp:=fun vs H Q _=>∃v x,vs=[v,x]∧sp [v,x] H (fun y H1=>∀t H2,Same H1 H2→H2 t=some (.tup [.str "found",y])→Q (.ref t) H2)
 (fun cls _ H1=>∃C i,cls=.ref C∧Err1 K CM c1 c2 c3 c4 c5 c6 c7 c8 C i∧∀t H2,Same H1 H2→H2 t=some (.tup [.str "refused",.int i])→Q (.ref t) H2)
noncomputable def N112:List Str:=["_law_way","_law_some","_law_caught","_law_found","e"]
theorem z2b:zj N112 ["_law_way","_law_some"] (zd (top 112)):=fsM
theorem z5M {sp:Sp} {k:Nat} (hsp:∀vs H Q Q' E E',sp vs H Q E→(∀v H,Q v H→Q' v H)→(∀c n H,E c n H→E' c n H)→sp vs H Q' E') (D:zm K mg "_law_told" (top 112)) (R:Errs K mg CM c1 c2 c3 c4 c5 c6 c7 c8) (hk:1≤k) (FO:FNX P w K mg base k "_law_one" ["_law_way","_law_some"] sp) (FW:FN P w K mg base 1 "_law_word" ["_law_caught"] (z4K K CM c1 c2 c3 c4 c5 c6 c7 c8)):FN P w K mg base (k+1) "_law_told" ["_law_way","_law_some"] (z23 K CM c1 c2 c3 c4 c5 c6 c7 c8 sp):=by
 refine FN.o D z2b fun f cdv A outer s H vs Q E hr h=>?_
 obtain ⟨v,x,rfl,h⟩:=h
 obtain ⟨f1,fd1,a1,b1,b2,d1⟩:=FO
 refine ⟨_,zb (zx (i:=2) z2b.nd rfl (Or.inl rfl) zF)
  (zb (zx (i:=3) z2b.nd rfl (Or.inl rfl) zF)
  (zb (z3L (i:=3) (j:=4) (ts:=fun _=>_) d1 hr rfl a1 b1 b2 (z6 (pv 0) (z6 (pv 1) z8)) z2b.nd rfl (Or.inl rfl) rfl rfl rfl R.m R.cM rfl rfl (fun _=>zf (zx (i:=2) z2b.nd rfl (Or.inl rfl) (pv 4))))
  (zb (zJ (zn jX (pv 2) zF (zt _)) (zf (zk (zB (z6 zo (z6 (pv 3) z8))))) zq)
  (zf (zk (zB (z6 zo (z6 (zu FW (hr.mono hk) rfl (z6 (pv 2) z8)) z8)))))))),?_⟩
 refine ⟨_,rfl,_,rfl,hsp _ _ _ _ _ _ h (fun y H1 q=>?_) (fun cls n H1 q=>?_)⟩
 ·refine ⟨_,rfl,rfl,_,rfl,iteT ?_⟩
  exact ⟨_,rfl,by show 2≤sizeLine;decide,fun t ht=>q t _ (zg ht _) z7⟩
 ·obtain ⟨C,i,rfl,e1,q⟩:=q
  refine ⟨C,rfl,e1.e,e1.u,fun y hy=>?_⟩
  refine ⟨_,rfl,?_⟩
  have s2:=zg hy (z1I y (.ref C))
  refine ⟨_,rfl,rfl,_,rfl,iteF ?_⟩
  refine ⟨_,rfl,y,C,i,rfl,e1,z7,fun H3 s3=>?_⟩
  refine ⟨by show 2≤sizeLine;decide,fun t ht=>?_⟩
  exact q t _ ((s2.trans s3).trans (zg ht _)) z7
end
end My
set_option maxHeartbeats 4000000
namespace L2
open PySem PySem.Spec PyProof.Rows
abbrev KeyN:=Option Str
noncomputable def nV:KeyN→V
 | none=>.non
 | some x=>.str x
noncomputable def z2H:KeyN→Value→Bool
 | none,.none=>true
 | some x,.str y _=>y == x
 | _,_=>false
theorem zT {k:KeyN} {v:Value} (h:z2H k v=true):(k=none∧v=.none)∨∃x t,k=some x∧v=.str x t:=by
 cases k with
 | none=>cases v <;> first | exact .inl ⟨rfl,rfl⟩ | cases h
 | some x=>
  cases v <;> first | cases h | skip
  rename_i y t
  have:y=x:=eq_of_beq h
  subst this
  exact .inr ⟨y,t,rfl,rfl⟩
theorem Qv {k:KeyN} {u:Value} (h:z2H k u=true):RelV (nV k) u:=by
 rcases zT h with ⟨rfl,rfl⟩ | ⟨x,t,rfl,rfl⟩
 ·rfl
 ·exact ⟨t,rfl⟩
theorem Z7 {prog:Program} {w:World} {A:Around} {E:Value→Shared→Prop} {s:Shared} {Q:Int→Shared→Prop} (h:Q (PySem.W.hashW w.params .none) { s with toks:=s.toks+1 }):wpAny (model prog w) A (pyHash .none) Q E s:=by
 exact PySem.W.pyHash_slot (T:="NoneType") rfl F.slot_NoneType_hash F.entry_NoneType_hash (F.args_NoneType_hash_1 _) rfl (.inl rfl) (wpAny_bind (wpAny_pure (wpAny_bind (wpAny_mkInt (wpAny_pure ⟨_,_,rfl,h⟩)))))
noncomputable def qX (prog:Program) (w:World):PySem.KeyKind prog w KeyN where
 is:=z2H
 hash:=fun k=>match k with
  | none=>PySem.W.hashW w.params .none
  | some x=>hashStr w x
 inj:=fun v a b ha hb=>by
  rcases zT ha with ⟨rfl,rfl⟩ | ⟨x,t,rfl,rfl⟩
  ·rcases zT hb with ⟨rfl,e⟩ | ⟨y,u,rfl,e⟩
   ·rfl
   ·exact nomatch e
  ·rcases zT hb with ⟨rfl,e⟩ | ⟨y,u,rfl,e⟩
   ·exact nomatch e
   ·injection e with e1 _;rw [e1]
 byValue:=fun k v h=>by
  rcases zT h with ⟨rfl,rfl⟩ | ⟨x,t,rfl,rfl⟩ <;> rfl
 pyHash:=fun hv h=>by
  rcases zT hv with ⟨rfl,rfl⟩ | ⟨x,t,rfl,rfl⟩
  ·exact Z7 h
  ·exact wpAny_pyHash_str h
 eqBool:=fun hu hv h=>by
  rcases zT hu with ⟨rfl,rfl⟩ | ⟨x,t,rfl,rfl⟩
  ·rcases zT hv with ⟨rfl,rfl⟩ | ⟨y,u,rfl,rfl⟩
   ·exact SeqAt.EqAt.same _ _ _ _ _ (by simpa using h)
   ·exact SeqAt.EqAt.none_str y u _ _ _ _ (by simpa using h)
  ·rcases zT hv with ⟨rfl,rfl⟩ | ⟨y,u,rfl,rfl⟩
   ·exact SeqAt.EqAt.str_none x t _ _ _ _ (by simpa using h)
   ·exact wpAny_eqBool_str (by simpa using h)
 «strs»:=fun k x t v h=>by
  rcases zT h with ⟨rfl,e⟩ | ⟨y,u,rfl,e⟩
  ·exact nomatch e
  ·injection e with e1 _
   subst e1
   cases v <;> rfl
end L2
namespace L2
open PySem PySem.Spec PyProof.Rows
noncomputable def ItkG {Kt:Type} (kvV:Kt→V) (ok:Hp→Prop) (kvs:List (Kt × V)):It:=
 ⟨fun i H=>ok H∧i < kvs.length,fun i H x H'=>H'=H∧∃k v,x=kvV k∧kvs[i]?=some (k,v),fun i H=>ok H∧kvs.length≤i⟩
theorem Qk {Kt:Type} [DecidableEq Kt] {P:Program} {w:World} {K:ky} {tg:Expr} {knd:PySem.KeyKind P w Kt} {kvV:Kt→V} {ok:Hp→Prop} {kvs:List (Kt × V)} {vs:List (Kt × Value)} {ep:Nat} (hrel:∀k u,knd.is k u=true→RelV (kvV k) u) (a it:Addr)
  (hlen:kvs.length=vs.length) (hget:∀(i:Nat) (k:Kt) (v:V),kvs[i]?=some (k,v)→∃u,vs[i]?=some (k,u)) (hat:∀H h,HOk P w H h→ok H→h.DictAt knd a vs ep):
  Turn P w K tg (ItkG kvV ok kvs) [it] it (fun i h=>h.IsKeyIter it a i vs.length ep) where
 mem:=by simp
 obj:=fun i h st b hb=>by
  have z:b=it:=by simpa using hb
  subst z
  obtain ⟨ob,q,c,dd⟩:=st
  exact ⟨_,q,fun v y=>by rw [dd] at y;cases y⟩
 keep:=fun i h h' st k=>let ⟨ob,q,c,dd⟩:=st;⟨ob,k it (by simp) _ q,c,dd⟩
 item:=by
  intro X hP hw hK hc i pins s σ H E I hf st hg
  subst hP hw hK
  obtain ⟨hq,hi⟩:=hg
  have hm:=hat H s.heap I.hok hq
  obtain ⟨p,hp⟩:∃p,kvs[i]?=some p:=⟨kvs[i],kK hi⟩
  obtain ⟨u,hv⟩:=hget i p.1 p.2 hp
  obtain ⟨f0,f1,f2,f3,f4,f5⟩:=hf it (by simp)
  refine wpAny_pyNext_dict_item st hm hv fun key h' hkey st' sb=>?_
  have I1:Inv X pins σ H { s with heap:=h' }:=I.turned (t':=s.toks) (fun c oc hc e=>(sb.2 c hc).trans e) f0 f1 f3 f4 f5
  obtain ⟨oi,e,c,dd⟩:=id st'
  exact ⟨key,rfl,z4d (s:={ s with heap:=h' }) e c dd (by decide) ⟨kvV p.1,H,I1,hrel _ _ hkey,⟨rfl,p.1,p.2,rfl,hp⟩,st',fun c hc=>(hf c hc).1⟩⟩
 done:=by
  intro X hP hw hK hc i pins s σ H E I hf st hg
  subst hP hw hK
  obtain ⟨hq,hi⟩:=hg
  have hm:=hat H s.heap I.hok hq
  obtain ⟨f0,f1,f2,f3,f4,f5⟩:=hf it (by simp)
  exact wpAny_pyNext_dict_end (I.ok.hd hc) st hm (by rw [List.getElem?_eq_none_iff];lia) fun h' eb=>⟨rfl,I.turned (t':=s.toks) (fun b o hb e=>eb b o hb e) f0 f1 f3 f4 f5⟩
 self:=fun _ _ _ _ _ st h=>Qf st h
section
variable {X:Cx} {tg:Expr}
def z7r (td:TE):TI:=fun σ H R=>td σ H fun x H1=>∃a kvs,x=.ref a∧H1 a=some (.dK kvs)∧∀o,R (ItkG kV (fun H=>H a=some (.frz o (.dK kvs))) kvs) (upd H1 a (.frz o (.dK kvs)))
theorem z3O {l:Expr} {td:TE} (hl:PE X l td):PI X tg l (z7r td):=by
 intro pins s σ H R I h
 refine thn (hl pins s σ H _ I h) fun v s1 zz=>?_
 obtain ⟨x,H1,I1,r1,q1⟩:=zz
 obtain ⟨a,kvs,e,ha,q⟩:=q1
 subst e
 cases r1
 obtain ⟨hz,hsy,vs,rel,dd⟩:=z0u I1.hok ha
 obtain ⟨ob,es,ep,hob,hex,hdat,r3⟩:=id dd
 have hlen:kvs.length=vs.length:=Paired.length rel
 have hm:s1.heap.DictAt (zK X.prog X.w) a vs ep:=⟨ob,es,hob,hex,hdat,r3⟩
 refine wpAny_pyIter_dict hsy hm ?_
 have k2:∀b o,s1.heap.get? b=some o→(s1.heap.push { cls:=.type "dict_keyiterator",data:=.fields #[.ref a,.int 0 0,.int vs.length 0,.int ep 0] }).get? b=some o:=fun b o e=>Heap.get?_push_of_some _ e
 have I2:Inv X pins σ H1 { s1 with heap:=s1.heap.push { cls:=.type "dict_keyiterator",data:=.fields #[.ref a,.int 0 0,.int vs.length 0,.int ep 0] } }:=I1.kept (t':=s1.toks) k2
 have hob2:=k2 _ _ hob
 have nf:=I2.nofrz ha (fun _ _=>nofun)
 have I3:=I2.recast (u':=.frz ob (.dK kvs)) ha (fun _=>nofun) (fun _=>nofun) (fun _=>nofun) nf ⟨hob2,hz,hsy,vs,rel,ob,es,ep,hob2,hex,hdat,r3⟩
 refine ⟨s1.heap.objs.size,[s1.heap.objs.size],_,_,_,rfl,I3,Qk (knd:=zK X.prog X.w) (kvV:=kV) (kvs:=kvs) (vs:=vs) (ep:=ep) (fun k u h=>JB h) a _ hlen (fun i k v e=>by obtain ⟨u,q,_⟩:=rel.get e;exact ⟨u,q⟩) (fun H h ok e=>?_),⟨_,Heap.get?_push_size _ rfl,rfl,rfl⟩,fun b hb=>?_,q ob⟩
 ·obtain ⟨hob3,_⟩:=(show zZ X.prog X.w H h a (.frz ob (.dK kvs)) from ok a _ e)
  exact ⟨ob,es,hob3,hex,hdat,r3⟩
 ·have e:b=s1.heap.objs.size:=by simpa using hb
  subst e
  have hn:=I1.hok.fresh (ke s1.heap.objs.size)
  refine I1.fpOk (ke _) ?_
  rw [ze (zc ha hn).symm]
  exact hn
noncomputable def FzN (a:Addr) (o:Obj):HO:=.ext fun h=>h.get? a=some o
def NoD (P:Program) (w:World) (a:Addr) (o:Obj) (kvs:List (KeyN × V)):Prop:=(a == sysModules)=false∧∃vs,Paired (fun (p:KeyN × V) (q:KeyN × Value)=>p.1=q.1∧RelV p.2 q.2) kvs vs∧o.IsDictOf (qX P w) vs
theorem z7t {P:Program} {w:World} {H:Hp} {h:Heap} {a:Addr} {o:Obj} (e:h.get? a=some o):zZ P w H h a (FzN a o):=⟨e,⟨o,e⟩,fun h1 h2 p k=>k o p⟩
theorem Q5 {P:Program} {w:World} {H:Hp} {h:Heap} {a:Addr} {o:Obj} (ok:HOk P w H h) (e:H a=some (FzN a o)):h.get? a=some o:=(show zZ P w H h a (FzN a o) from ok a _ e).1
theorem z2E {kvs:List (KeyN × V)} {vs:List (KeyN × Value)} (r:Paired (fun (p:KeyN × V) (q:KeyN × Value)=>p.1=q.1∧RelV p.2 q.2) kvs vs):∀{i:Nat} {p:KeyN × V},kvs[i]?=some p→∃v,vs[i]?=some (p.1,v)∧RelV p.2 v:=by
 induction r with
 | nil=>intro i p h;simp at h
 | @cons p q ps qs h t ih=>
  intro i p' hp
  cases i with
  | zero=>
   simp at hp
   subst hp
   exact ⟨q.2,by rw [h.1];rfl,h.2⟩
  | succ i=>
   obtain ⟨v,h1,h2⟩:=ih (by simpa using hp)
   exact ⟨v,by simpa using h1,h2⟩
def z7q (X:Cx) (td:TE):TI:=fun σ H R=>td σ H fun x H1=>∃a o kvs,x=.ref a∧H1 a=some (FzN a o)∧NoD X.prog X.w a o kvs∧R (ItkG nV (fun H=>H a=some (FzN a o)) kvs) H1
theorem z3N {l:Expr} {td:TE} (hl:PE X l td):PI X tg l (z7q X td):=by
 intro pins s σ H R I h
 refine thn (hl pins s σ H _ I h) fun v s1 zz=>?_
 obtain ⟨x,H1,I1,r1,q1⟩:=zz
 obtain ⟨a,ob,kvs,e,ha,⟨hsy,vs,rel,es,ep,hex,hdat,r3⟩,q⟩:=q1
 subst e
 cases r1
 have hob:=Q5 I1.hok ha
 have hlen:kvs.length=vs.length:=Paired.length rel
 have hm:s1.heap.DictAt (qX X.prog X.w) a vs ep:=⟨ob,es,hob,hex,hdat,r3⟩
 refine wpAny_pyIter_dict hsy hm ?_
 have k2:∀b o,s1.heap.get? b=some o→(s1.heap.push { cls:=.type "dict_keyiterator",data:=.fields #[.ref a,.int 0 0,.int vs.length 0,.int ep 0] }).get? b=some o:=fun b o e=>Heap.get?_push_of_some _ e
 have I2:Inv X pins σ H1 { s1 with heap:=s1.heap.push { cls:=.type "dict_keyiterator",data:=.fields #[.ref a,.int 0 0,.int vs.length 0,.int ep 0] } }:=I1.kept (t':=s1.toks) k2
 refine ⟨s1.heap.objs.size,[s1.heap.objs.size],_,_,_,rfl,I2,Qk (knd:=qX X.prog X.w) (kvV:=nV) (kvs:=kvs) (vs:=vs) (ep:=ep) (fun k u h=>Qv h) a _ hlen (fun i k v e=>by obtain ⟨u,q,_⟩:=z2E rel e;exact ⟨u,q⟩) (fun H h ok e=>⟨ob,es,Q5 ok e,hex,hdat,r3⟩),⟨_,Heap.get?_push_size _ rfl,rfl,rfl⟩,fun b hb=>?_,q⟩
 have e:b=s1.heap.objs.size:=by simpa using hb
 subst e
 exact I1.fpOk (ke _) (I1.hok.fresh (ke s1.heap.objs.size))
end
theorem z2Y {Kt:Type} {kvV:Kt→V} {ok:Hp→Prop} {kvs:List (Kt × V)} {g:TG} {tb:TS} {D:Ends} {σ:St} {H:Hp} (Pv:Nat→St→Hp→Prop) (h0:Pv 0 σ H) (hl:∀i σ H,i≤kvs.length→Pv i σ H→ok H)
  (hs:∀i k v σ H,kvs[i]?=some (k,v)→Pv i σ H→g (kvV k) σ H fun σ2 H2=>tb { D with nx:=Pv (i+1),ct:=Pv (i+1),bk:=D.nx } σ2 H2) (hd:∀σ H,Pv kvs.length σ H→D.nx σ H):
  ∃W:Nat→Nat→St→Hp→Prop,(∃m,W 0 m σ H)∧∀i m σ H,W i m σ H→
   ((ItkG kvV ok kvs).stop i H∧D.nx σ H)∨((ItkG kvV ok kvs).go i H∧∃N:St→Hp→Prop,(∀σ' H',N σ' H'→∃m',m' < m∧W (i+1) m' σ' H')∧∀x H',(ItkG kvV ok kvs).yld i H x H'→g x σ H' fun σ2 H2=>tb { D with nx:=N,ct:=N,bk:=D.nx } σ2 H2):=by
 refine ⟨fun i m σ H=>m=kvs.length - i∧i≤kvs.length∧Pv i σ H,⟨kvs.length,by simp,Nat.zero_le _,h0⟩,?_⟩
 rintro i m σ H ⟨rfl,hi,p⟩
 have q:=hl i σ H hi p
 by_cases hlt:i < kvs.length
 ·refine .inr ⟨⟨q,hlt⟩,Pv (i+1),fun σ' H' h=>⟨kvs.length - (i+1),by lia,rfl,by lia,h⟩,fun x H' y=>?_⟩
  obtain ⟨e,k,v,ex,ek⟩:=y
  subst e ex
  exact hs i k v σ _ ek p
 ·have e:i=kvs.length:=by lia
  subst e
  exact .inl ⟨⟨q,ke _⟩,hd σ H p⟩
section
variable {X:Cx}
def z6D (X:Cx) (trs:List (TE × TE)):TE:=fun σ H Q=>∀p,H p=none→z0E trs σ (upd H p (.dK [])) fun ps H2=>H2 p=some (.dK [])∧∃(x:Str) (v1 v2:V),ps=[(.non,v1),(.str x,v2)]∧∀o,NoD X.prog X.w p o [(none,v1),(some x,v2)]→Q (.ref p) (upd H2 p (FzN p o))
theorem z3T {pos:Pos} {keys:List (Option Expr)} {values:List Expr} {trs:List (TE × TE)} (h:PPs X pos keys values trs) (hall:keys.all (·.isSome)=true) (hl:keys.length=values.length) (h0:keys≠[])
  (h15:keys.length≤15):PE X (.Dict keys values pos) (z6D X trs):=by
 intro pins s σ H Q I q
 have hn:=I.hok.fresh (ke s.heap.objs.size)
 have I1:=I.laid (a:=s.heap.objs.size) (o:=.dK []) (h':=s.heap.push { cls:=.type "dict",data:=.dict #[] }) (t':=s.toks) (fun _ _ q=>Heap.get?_push_of_some _ q) (ke _) (ZM s.heap I.big)
 refine wpAny_Dict_walk (knd:=qX X.prog X.w) hall hl h0 h15 (thn (h pins _ σ _ _ I1 (q _ hn)) fun ws s2 zz=>?_)
 obtain ⟨ps,H2,I2,rel,e,x,v1,v2,ep,q2⟩:=zz
 subst ep
 obtain ⟨z,hd,vs0,r0,dd⟩:=z0u I2.hok e
 cases r0
 cases rel with
 | @cons _ y1 _ _ hy1 t=>
  cases t with
  | @cons _ y2 _ _ hy2 t=>
   cases t
   obtain ⟨a1,b1⟩:=y1
   obtain ⟨a2,b2⟩:=y2
   obtain ⟨r1,r1'⟩:=hy1
   obtain ⟨r2,r2'⟩:=hy2
   obtain rfl:a1=Value.none:=r1
   obtain ⟨t2,rfl⟩:∃t,a2=Value.str x t:=r2
   refine ⟨[(none,b1),(some x,b2)],⟨rfl,rfl,by show (x == x)=true;exact yb x,rfl,True.intro⟩,?_,fun h' dd' hs=>?_⟩
   ·obtain ⟨o,es,ep,g1,g2,g3,g4,g5,g6⟩:=dd
    have he:es.toList=[]:=by
     generalize es.toList=l at g5
     cases g5
     rfl
    refine ⟨o,es,ep,g1,g2,g3,fun e hm=>?_,by rw [he];exact .nil,.nil⟩
    have:e∈es.toList:=by simpa using hm
    rw [he] at this
    cases this
   ·have em:merged [] [((none:KeyN),b1),(some x,b2)]=[(none,b1),(some x,b2)]:=by simp [merged,stored]
    rw [em] at dd'
    obtain ⟨o,es,ep,g1,g2⟩:=dd'
    refine ⟨.ref s.heap.objs.size,_,?_,rfl,q2 o ⟨hd,_,.cons ⟨rfl,r1'⟩ (.cons ⟨rfl,r2'⟩ .nil),es,ep,g2⟩⟩
    exact Zo I2 (by rw [e];exact True.intro) hs ⟨o,g1⟩ (z7t g1)
end
end L2
namespace L2
open PySem PySem.Spec PyProof.Rows
section
variable {X:Cx}
theorem JW:jt X (.builtin "isinstance") (fun xs H Q=>∃a o kvs T b,xs=[.ref a,.ty T]∧H a=some (FzN a o)∧NoD X.prog X.w a o kvs∧PySem.W.kitOne X.K (.type "dict") (.type T)=some b∧Q (.bl b) H):=by
 intro pins s σ H xs us Q I r h
 obtain ⟨a,o,kvs,T,b,rfl,ha,⟨hsy,vs,rel,es,ep,hex,hdat,r3⟩,e,q⟩:=h
 obtain ⟨u,u2,rfl,ru,r2⟩:=z1N r
 cases r2
 cases ru
 exact PySem.W.kia_one PySem.W.kitx_dict I.kIn ⟨o,Q5 I.hok ha,hex.1⟩ e (fun z=>nomatch z) fun tk=>⟨.bl b,H,I.tok tk,rfl,q⟩
theorem JV:jt X (.builtin "len") (fun xs H Q=>∃a o kvs,xs=[V.ref a]∧H a=some (FzN a o)∧NoD X.prog X.w a o kvs∧kvs.length≤1000∧Q (.int kvs.length) H):=by
 intro pins s σ H xs us Q I r h
 obtain ⟨a,o,kvs,rfl,ha,⟨hsy,vs,rel,es,ep,r3⟩,z,q⟩:=h
 obtain ⟨u,rfl,ru⟩:=ZO r
 cases ru
 have hl:kvs.length=vs.length:=Paired.length rel
 refine call_len_dict (knd:=qX X.prog X.w) hsy ⟨o,es,ep,Q5 I.hok ha,r3⟩ (by rw [←hl];lia) ?_
 rw [←hl]
 exact ⟨.int kvs.length,H,I.tok _,⟨_,rfl⟩,q⟩
end
noncomputable def Itn (a:Addr) (o:Obj) (kvs:List (KeyN × V)):It:=
 ⟨fun i H=>H a=some (FzN a o)∧i < kvs.length,fun i H x H'=>∃p k v,x=.ref p∧H p=none∧kvs[i]?=some (k,v)∧H'=upd H p (.tup [nV k,v]),fun i H=>H a=some (FzN a o)∧kvs.length≤i⟩
theorem z05 {P:Program} {w:World} {K:ky} {elts:List Expr} {x1} {pos:Pos} (a it:Addr) (o:Obj) {kvs:List (KeyN × V)} (nd:NoD P w a o kvs):
  Turn P w K (.Tuple elts x1 pos) (Itn a o kvs) [it] it (fun i h=>∃es ep ok ov,o.data=.dict es ep∧IsItemIter h it a i kvs.length ep ok ov) where
 mem:=by simp
 obj:=fun i h st b hb=>by
  have z:b=it:=by simpa using hb
  subst z
  obtain ⟨es,ep,ok,ov,_,q⟩:=st
  exact ⟨_,q,fun v y=>by cases y⟩
 keep:=fun i h h' st k=>let ⟨es,ep,ok,ov,d,q⟩:=st;⟨es,ep,ok,ov,d,k it (by simp) _ q⟩
 item:=by
  intro X hP hw hK hc i pins s σ H E I hf st hg
  subst hP hw hK
  obtain ⟨hq,hi⟩:=hg
  obtain ⟨es,ep,ok,ov,hd,hit⟩:=st
  have ho:=Q5 I.hok hq
  obtain ⟨hsy,vs,rel,es',ep',hex,hdat,r3⟩:=nd
  rw [hd] at hdat
  cases hdat
  have hm:s.heap.DictAt (qX X.prog X.w) a vs ep:=⟨o,es,ho,hex,hd,r3⟩
  have hlen:kvs.length=vs.length:=Paired.length rel
  obtain ⟨p,hp⟩:∃p,kvs[i]?=some p:=⟨kvs[i],kK hi⟩
  obtain ⟨v,hv,rv⟩:=z2E rel hp
  have fi:=hf it (by simp)
  rw [hlen] at hit
  refine wpAny_pyNext_items_item hit hm hv fun key h' hkey heo ht hsz hk=>⟨_,rfl,?_⟩
  have rk:RelV (nV p.1) key:=Qv hkey
  have new:zZ X.prog X.w (upd H s.heap.objs.size (.tup [nV p.1,p.2])) h' s.heap.objs.size (.tup [nV p.1,p.2]):=⟨by show 2≤sizeLine;decide,[key,v],.cons rk (.cons rv .nil),_,ht,rfl,_,rfl⟩
  have I1:Inv X pins σ (upd H s.heap.objs.size (.tup [nV p.1,p.2])) { s with heap:=h',toks:=s.toks }:=I.turned2 (e:=it) (it:=it) (t':=s.toks) (fun b o hb _ e=>hk b o hb e) (fun b hb=>by
   have z:b=it:=by simpa using hb
   subst z;exact ⟨_,heo⟩) fi fi new
  have ne1:it≠s.heap.objs.size:=Nat.ne_of_lt (Heap.lt_size hit)
  refine wpAny_letOwnedTupleGo_items (s:={ s with heap:=h' }) heo fun h2 he2 hs2=>?_
  refine ⟨.ref s.heap.objs.size,_,I1.turned (t':=s.toks) (it:=it) (fun b o hb q=>(hs2.2 b hb).trans q) (by rw [ze ne1];exact fi.1) fi.2.1 fi.2.2.2.1 fi.2.2.2.2.1 fi.2.2.2.2.2,rfl,⟨_,p.1,p.2,rfl,I.fresh,hp,rfl⟩,⟨es,ep,key,v,hd,by rw [hlen];exact he2⟩,fun b hb=>?_⟩
  have z:b=it:=by simpa using hb
  subst z;rw [ze ne1];exact fi.1
 done:=by
  intro X hP hw hK hc i pins s σ H E I hf st hg
  subst hP hw hK
  obtain ⟨hq,hi⟩:=hg
  obtain ⟨es,ep,ok,ov,hd,hit⟩:=st
  have ho:=Q5 I.hok hq
  obtain ⟨hsy,vs,rel,es',ep',hex,hdat,r3⟩:=nd
  rw [hd] at hdat
  cases hdat
  have hm:s.heap.DictAt (qX X.prog X.w) a vs ep:=⟨o,es,ho,hex,hd,r3⟩
  have hlen:kvs.length=vs.length:=Paired.length rel
  rw [hlen] at hit hi
  obtain ⟨f0,f1,f2,f3,f4,f5⟩:=hf it (by simp)
  exact wpAny_pyNext_items_end (I.ok.hd hc) hit hm (by rw [List.getElem?_eq_none_iff];exact hi) fun h' eb=>⟨rfl,I.turned (t':=s.toks) (fun b o hb e=>eb b o hb e) f0 f1 f3 f4 f5⟩
 self:=fun _ _ _ _ _ st h=>let ⟨es,ep,ok,ov,_,q⟩:=st;qH q h
section
variable {X:Cx}
def z6H (X:Cx) (nt:Nat) (ix:List Nat) (td:TE) (g:TG) (tc:TT) (te:TE):TE:=fun σ H Q=>td σ H fun x H1=>∃a o kvs,x=.ref a∧H1 a=some (FzN a o)∧NoD X.prog X.w a o kvs∧∀l,H1 l=none→∃W:Nat→Nat→List V→St→Hp→Prop,(∃m,W 0 m [] (Z4 nt ix σ) (upd H1 l (.lst [])))∧∀i m ys σ' H2,W i m ys σ' H2→
 H2 a=some (FzN a o)∧(kvs.length≤i→Q (.ref l) H2)∧(∀p k v,kvs[i]?=some (k,v)→H2 p=none→g (.ref p) σ' (upd H2 p (.tup [nV k,v])) fun σ2 H4=>tc σ2 H4 fun b H5=>if b=true then te σ2 H5 fun v H6=>H6 l=some (.lst ys)∧ys.length < sizeLine∧∃m',m' < m∧W (i+1) m' (ys++[v]) σ2 (upd H6 l (.lst (ys++[v])))
  else ∃m',m' < m∧W (i+1) m' ys σ2 H5)
theorem z3U {elt o:Expr} {elts:List Expr} {x1} {tp apos cpos:Pos} {ifs:List Expr} {N:List Str} {nt:Nat} {ix:List Nat} {scope:Scope} {cl:List (Str × Addr)} {pos:Pos} {td:TE} {g:TG} {tc:TT} {te:TE} (hc:X.calm=true) (sc:qA X N nt ix scope cl) (ho:PE X o td)
  (hg:∀(s:Shared) (H:Hp) (fp:List Addr) (C:Addr),PG (zW X N scope cl s H fp C) (.Tuple elts x1 tp) g)
  (ht:∀(s:Shared) (H:Hp) (fp:List Addr) (C:Addr),PTs (zW X N scope cl s H fp C) ifs tc)
  (he:∀(s:Shared) (H:Hp) (fp:List Addr) (C:Addr),PE (zW X N scope cl s H fp C) elt te) (hs:∀x,foldedSetIterable (.Call (.Attribute o "items" apos) [] [] cpos) X.env x=pure x:=by intro _;rfl)
  (hbase:autoParam (attributeBase o "items" X.env (eval o X.env)=eval o X.env) aR._auto_1) (hline:autoParam ((apos.endLine == cpos.line)=true) aR._auto_1):
  PE X (.ListComp elt [⟨.Tuple elts x1 tp,.Call (.Attribute o "items" apos) [] [] cpos,ifs,0⟩] scope pos) (z6H X nt ix td g tc te):=by
 intro pins s σ H Q I h
 rw [eval_ListComp]
 refine wpAny_comprehension_free (use:=none) rfl hs sc.clos sc.kind sc.names ?_
 refine wpAny_Call_method0_late hbase hline (thn (ho pins s σ H _ I h) fun v s1 zz=>?_)
 obtain ⟨x,H1,I1,r1,a,ob,kvs,ex,ha,nd,q1⟩:=zz
 subst ex
 cases r1
 obtain ⟨hsy,vs,rel,es,ep,hex,hdat,r3⟩:=id nd
 have hob:=Q5 I1.hok ha
 have dd:s1.heap.DictOf (qX X.prog X.w) a vs:=⟨ob,es,ep,hob,hex,hdat,r3⟩
 have hlen:kvs.length=vs.length:=Paired.length rel
 refine ⟨"dict",_,F.plainAttrs_dict,F.slot_dict_items,F.type_dict_items,⟨ob,hob,hex.1⟩,fun b z=>(by cases z;exact ⟨ob,hob,hex.2.1⟩),Calls.callWith_builtin rfl (PySem.evalArgs_none ?_)⟩
 refine call_meetsIn F.slot_dict_items dd.typeIs F.entry_dict_items (F.args_dict_items_1 _) (meets_dict_items (qX X.prog X.w) a hsy) ⟨⟨vs,dd⟩,?_⟩
 have k2:∀b o,s1.heap.get? b=some o→(s1.heap.push { cls:=.type "dict_items",data:=.fields #[.ref a] }).get? b=some o:=fun b o e=>Heap.get?_push_of_some _ e
 have I2:Inv X pins σ H1 { s1 with heap:=s1.heap.push { cls:=.type "dict_items",data:=.fields #[.ref a] } }:=I1.kept (t':=s1.toks) k2
 have hm:(s1.heap.push { cls:=.type "dict_items",data:=.fields #[.ref a] }).DictAt (qX X.prog X.w) a vs ep:=⟨ob,es,k2 _ _ hob,hex,hdat,r3⟩
 generalize hs2:({ s1 with heap:=s1.heap.push { cls:=.type "dict_items",data:=.fields #[.ref a] } }:Shared)=s2 at *
 have hm2:s2.heap.DictAt (qX X.prog X.w) a vs ep:=by rw [←hs2];exact hm
 have hview:s2.heap.IsItemsView s1.heap.objs.size a:=⟨_,by rw [←hs2];exact Heap.get?_push_size _ rfl,rfl,rfl⟩
 refine wpAny_pyIter_items hview hm2 ?_
 have k3:∀b o,s2.heap.get? b=some o→(s2.heap.push { cls:=.type "dict_itemiterator",data:=.fields #[.none,.bool false,.ref a,.int 0 0,.int vs.length 0,.int ep 0,.none,.none] }).get? b=some o:=fun b o e=>Heap.get?_push_of_some _ e
 have I3:Inv X pins σ H1 { s2 with heap:=s2.heap.push { cls:=.type "dict_itemiterator",data:=.fields #[.none,.bool false,.ref a,.int 0 0,.int vs.length 0,.int ep 0,.none,.none] } }:=I2.kept (t':=s2.toks) k3
 have hob3:(s2.heap.push { cls:=.type "dict_itemiterator",data:=.fields #[.none,.bool false,.ref a,.int 0 0,.int vs.length 0,.int ep 0,.none,.none] }).get? a=some ob:=k3 _ _ (by rw [←hs2];exact k2 _ _ hob)
 have itn:H1 s2.heap.objs.size=none:=I2.fresh
 have nea:s2.heap.objs.size≠a:=(zc ha itn).symm
 refine jo (Q:=Q) (RR:=fun acc C=>compPost (model X.prog X.w) X.A X.xe none (EP X pins σ Q) acc C) hc sc I3 (z05 a s2.heap.objs.size ob nd) ⟨es,ep,.none,.none,hdat,by rw [hlen];exact Heap.get?_push_size _ rfl⟩ (fun b hb=>?_) hg ht he (fun l hl=>?_) ?_
 ·have z:b=s2.heap.objs.size:=by simpa using hb
  subst z
  exact I2.fpOk (ke _) itn
 ·obtain ⟨W,w0,turn⟩:=q1 l hl
  refine ⟨W,w0,fun i m ys σ' H2 hW=>?_⟩
  obtain ⟨t1,t2,t3⟩:=turn i m ys σ' H2 hW
  by_cases hlt:i < kvs.length
  ·refine .inr ⟨⟨t1,hlt⟩,fun x H3 y=>?_⟩
   obtain ⟨p,k,v,rfl,hp,hkv,rfl⟩:=y
   exact t3 p k v hkv hp
  ·exact .inl ⟨⟨t1,by lia⟩,t2 (by lia)⟩
 ·intro D C s' H' m I' n' c1 c2 c3 c4 c5 q'
  refine ⟨m,n',fun h' hs'=>?_⟩
  have I5:=I'.turned (t':=s'.toks) (it:=C) (h':=h') (fun b o hb e=>(hs'.2 b hb).trans e) c2 c1 (.inr c3) c4 c5
  exact ⟨.ref D,_,I5,rfl,q'⟩
end
theorem z0w {a l:Addr} {kvs:List (KeyN × V)} {o:Obj} {g:TG} {tc:TT} {te:TE} {Q:VK} {H:Hp} {σ0:L2.St} (Pv:Nat→List V→L2.St→Hp→Prop) (h0:Pv 0 [] σ0 (upd H l (.lst []))) (hf:∀i ys σ H,Pv i ys σ H→H a=some (FzN a o))
  (hs:∀i p k v ys σ H,kvs[i]?=some (k,v)→Pv i ys σ H→H p=none→g (.ref p) σ (upd H p (.tup [nV k,v])) fun σ2 H4=>tc σ2 H4 fun b H5=>if b=true then te σ2 H5 fun v H6=>H6 l=some (.lst ys)∧ys.length < sizeLine∧∃m',m' < kvs.length - i∧m'=kvs.length - (i+1)∧i+1≤kvs.length∧Pv (i+1) (ys++[v]) σ2 (upd H6 l (.lst (ys++[v])))
   else ∃m',m' < kvs.length - i∧m'=kvs.length - (i+1)∧i+1≤kvs.length∧Pv (i+1) ys σ2 H5) (hd:∀ys σ H,Pv kvs.length ys σ H→Q (.ref l) H):
  ∃W:Nat→Nat→List V→L2.St→Hp→Prop,(∃m,W 0 m [] σ0 (upd H l (.lst [])))∧∀i m ys σ' H2,W i m ys σ' H2→
   H2 a=some (FzN a o)∧(kvs.length≤i→Q (.ref l) H2)∧(∀p k v,kvs[i]?=some (k,v)→H2 p=none→g (.ref p) σ' (upd H2 p (.tup [nV k,v])) fun σ2 H4=>tc σ2 H4 fun b H5=>if b=true then te σ2 H5 fun v H6=>H6 l=some (.lst ys)∧ys.length < sizeLine∧∃m',m' < m∧W (i+1) m' (ys++[v]) σ2 (upd H6 l (.lst (ys++[v])))
    else ∃m',m' < m∧W (i+1) m' ys σ2 H5):=by
 refine ⟨fun i m ys σ H=>m=kvs.length - i∧i≤kvs.length∧Pv i ys σ H,⟨kvs.length,by simp,Nat.zero_le _,h0⟩,?_⟩
 rintro i m ys σ H ⟨rfl,hi,p⟩
 refine ⟨hf i ys σ H p,fun hle=>?_,fun p' k v hkv hp=>hs i p' k v ys σ H hkv p hp⟩
 have e:i=kvs.length:=by lia
 subst e
 exact hd ys σ H p
end L2
set_option maxHeartbeats 8000000
namespace My
open PySem PySem.Spec PyProof.Rows L2
variable {P:Program} {w:World} {K:ky} {mg:Str→Option Value} {base:Heap}
def NoT (P:Program) (w:World) (H:Hp) (x:V):Prop:=∃d o v,x=.ref d∧H d=some (FzN d o)∧NoD P w d o [(none,.int 1),(some "b",v)]∧Val H v
theorem NoT.same {P:Program} {w:World} {H H':Hp} {x:V} (h:NoT P w H x) (s:Same H H'):NoT P w H' x:=by
 obtain ⟨d,o,v,rfl,h1,h2,h3⟩:=h
 exact ⟨d,o,v,rfl,s _ _ h1,h2,h3.same s⟩
def NB (P:Program) (w:World) (H:Hp) (x:V):Prop:=ji H x false∨NoT P w H x
theorem NB.same {P:Program} {w:World} (H H':Hp) (x:V) (h:NB P w H x) (s:Same H H'):NB P w H' x:=h.elim (fun h=>.inl (h.same s)) fun h=>.inr (h.same s)
section
def z0J (P:Program) (w:World):Sp:=fun vs H Q _=>∃x,vs=[x]∧NoT P w H x∧∀H',Same H H'→Q (.bl false) H'
noncomputable def gdO (p:KeyN × V):Bool:=jh (nV p.1)&&j6 p.2 1000000000000000000
theorem z36 (D:zm K mg "is_names" (top 80)) (G:Glo mg) (F1:FN P w K mg base 2 "is_name" ["thing"] (sp1 jh)) (F2:FN P w K mg base 3 "is_value_within" ["thing","most"] ZR) (F3:FN P w K mg base 3 "is_value_within" ["thing","most"] spR2):FN P w K mg base 4 "is_names" ["thing"] (z0J P w):=by
 refine FN.o D sc80 fun f cdv A outer s H vs Q E hr h=>?_
 obtain ⟨x,rfl,⟨d,o,v0,rfl,hd,nd,hv0⟩,q⟩:=h
 obtain ⟨u1,m1,r1⟩:=G.made
 refine ⟨_,zb (zJ (PW.pt (jx (qw (zX (zl JW rfl G.isinstance zi (z6 (pv 0) (z6 (qQ "dict" rfl G.dict qY) z8)))))
   (j9 (zn z0i (zl JV rfl G.len zR (z6 (pv 0) z8)) (qt rfl G.names) (zt _))))) (zf (zk qV)) zq)
  (zf (zk (zl (jp rfl) rfl G.all J4 (z6 (z3U (N:=["name","value"]) (nt:=2) (ix:=[]) (cl:=[]) rfl (qA.plain (by trivial) (by trivial) rfl (by trivial) rfl) (pv 0)
   (fun _ _ _ _=>Zf (K:=K) (n:=2) rfl rfl (zp (zw (i:=0) ndnv rfl (Or.inl rfl)) (zp (zw (i:=1) ndnv rfl (Or.inl rfl)) qh)))
   (fun _ _ _ _=>Zc)
   (fun _ _ _ _=>qj (zu F1 (hr.mono (by decide)) rfl (z6 (pv 0) z8)) (qm (PE.or (zu F2 hr rfl (z6 (pv 1) (z6 (zA rfl m1 r1) z8))) (zu F3 hr rfl (z6 (pv 1) (z6 (zA rfl m1 r1) z8))))))) z8)))),?_⟩
 refine ⟨_,rfl,d,o,_,"dict",true,rfl,hd,nd,rfl,_,rfl,iteF ?_⟩
 refine ⟨_,rfl,d,o,_,rfl,hd,nd,by show 2≤1000;decide,_,_,rfl,rfl,false,rfl,iteF ?_⟩
 refine ⟨_,rfl,d,o,_,rfl,hd,nd,fun l hl=>?_⟩
 generalize hk:[((none:KeyN),V.int 1),(some "b",v0)]=kvs at nd
 have hall:∀p∈kvs,Scal (nV p.1)∧Val H p.2:=by
  subst hk
  intro p hp
  rcases kD.mp hp with rfl | hp
  ·exact ⟨.non,.inl (.int 1)⟩
  ·cases ko.mp hp
   exact ⟨.str _ (by decide),hv0⟩
 have hlen:kvs.length=2:=by rw [←hk];rfl
 have hfin:kvs.all gdO=false:=by rw [←hk];rfl
 clear hk
 refine z0w (Q:=fun x H1=>∃(p:Addr) (bs:List Bool),[x]=[V.ref p]∧SqL K H1 p (bs.map V.bl)∧Q (V.bl (bs.all id)) H1) (fun i ys σ H2=>(∃a b,σ=[a,b])∧ys=((kvs.take i).map gdO).map V.bl∧H2 l=some (.lst ys)∧Same H H2) ⟨⟨none,none,rfl⟩,rfl,z7,zg hl _⟩ (fun i ys σ H2 h=>h.2.2.2 _ _ hd) ?_ ?_
 ·rintro i p k v ys σ H2 hi ⟨⟨a,b,rfl⟩,rfl,hl2,s2⟩ hp
  obtain ⟨h1,h2⟩:=hall (k,v) (kG hi)
  have hil:=(kf.mp hi).1
  have npl:l≠p:=zc hl2 hp
  have s3:Same H (upd H2 p (.tup [nV k,v])):=s2.trans (zg hp _)
  refine ⟨p,_,rfl,SqT.of z7,rfl,_,_,rfl,_,_,rfl,rfl,?_⟩
  refine Z8 ⟨_,rfl,_,rfl,h1,_,rfl,?_⟩
  have hsz:(((kvs.take i).map gdO).map V.bl).length < sizeLine:=by rw [kj,kj,List.length_take];exact zV (by lia)
  have hys:((kvs.take i).map gdO).map V.bl++[V.bl (gdO (k,v))]=((kvs.take (i+1)).map gdO).map V.bl:=by rw [qI hi,kJ,kJ];rfl
  have hl3:(upd H2 p (.tup [nV k,v])) l=some (.lst (((kvs.take i).map gdO).map V.bl)):=by rw [ze npl];exact hl2
  have kp3:∀o',Same H (upd (upd H2 p (.tup [nV k,v])) l o'):=fun o' b o e=>by rw [ze (zc e hl)];exact s3 _ _ e
  by_cases c:jh (nV k)=true
  ·rw [c]
   have eg:gdO (k,v)=j6 v 1000000000000000000:=by unfold gdO;rw [c];rfl
   rw [eg] at hys
   refine iteT ?_
   rcases h2 with h2 | h2
   ·exact .inl ⟨_,rfl,_,_,rfl,h2,hl3,hsz,_,by lia,rfl,by lia,⟨_,_,rfl⟩,hys,z7,kp3 _⟩
   ·rw [h2.value] at hys
    exact .inr ⟨_,rfl,_,_,rfl,h2.same s3,hl3,hsz,_,by lia,rfl,by lia,⟨_,_,rfl⟩,hys,z7,kp3 _⟩
  ·have c:=Bool.eq_false_iff.mpr c
   rw [c]
   have eg:gdO (k,v)=false:=by unfold gdO;rw [c];rfl
   rw [eg] at hys
   exact iteF ⟨hl3,hsz,_,by lia,rfl,by lia,⟨_,_,rfl⟩,hys,z7,kp3 _⟩
 ·rintro ys σ H2 ⟨_,rfl,hl2,s2⟩
  rw [List.take_length] at hl2
  refine ⟨l,kvs.map gdO,rfl,SqL.of hl2,?_⟩
  have e:(kvs.map gdO).all id=kvs.all gdO:=by rw [List.all_map];rfl
  rw [e,hfin]
  exact q _ s2
theorem z4x {CN:Addr} (D:zm K mg "check_names" (top 81)) (mN:mg "BadNames"=some (.ref CN)) (cN:PySem.W.excIn K CN rtM "RuntimeError.__new__"=true) (F1:FN P w K mg base 4 "is_names" ["thing"] z0I) (F2:FN P w K mg base 4 "is_names" ["thing"] (z0J P w)):FNX P w K mg base 5 "check_names" ["thing"] (z4U (NB P w) CN):=by
 refine FNX.of D sc81 (fun _ _ _ _ _ _=>zU1 fun _=>rfl) (fun vs H Q E h=>by obtain ⟨x,rfl,_⟩:=h;rfl) (fun f cdv A outer s H vs Q E hr h=>?_)
 obtain ⟨x,rfl,hx,q⟩:=h
 refine ⟨_,zf (zJ (qw (zX (PE.or (zu F1 hr rfl (z6 (pv 0) z8)) (zu F2 hr rfl (z6 (pv 0) z8))))) (zf (QI qa rfl rfl rfl mN cN (z6 zo z8))) zq),?_⟩
 have fin:∀H',Same H H'→_:=q
 rcases hx with hx | hx
 ·exact .inl ⟨_,rfl,x,false,rfl,hx,fun H' s'=>⟨_,rfl,iteT ⟨by show 1≤sizeLine;decide,q H' s'⟩⟩⟩
 ·exact .inr ⟨_,rfl,x,rfl,hx,fun H' s'=>⟨_,rfl,iteT ⟨by show 1≤sizeLine;decide,q H' s'⟩⟩⟩
end
noncomputable def rs0:List Row:=[⟨"push",.int 1,1⟩,⟨"return",.non,2⟩]
noncomputable def rb1:List Row:=[⟨"return",.non,1⟩]
noncomputable def rb2:List Row:=[⟨"push",.int 1,1⟩]
noncomputable def rb3:List Row:=[⟨"endtry",.non,1⟩,⟨"push",.int 1,1⟩]
theorem QY {rs:List Row} (h:(rs.all fun r=>rowV r.op r.arg (.int r.line))=true) (hf:((List.range rs.length).all fun i=>match rs[i]? with | some r=>js rs i r | none=>true)=true) (h1:1≤rs.length) (h2:rs.length≤150):Code rs:=by
 refine ⟨fun r hr=>List.all_eq_true.mp h r hr,fun i r hi=>?_,h1,h2⟩
 have:=List.all_eq_true.mp hf i (List.mem_range.mpr (kf.mp hi).1)
 rw [hi] at this
 exact this
theorem z3l:Code rs0:=QY (by trivial) (by trivial) (by decide) (by decide)
theorem z1S:∃fin,jw rs0=some fin:=Option.isSome_iff_exists.mp (by trivial)
theorem z6l:j4 rs0 0 200 0 []=some (0,[]):=by trivial
theorem bad1:BadC rb1:=⟨QY (by trivial) (by trivial) (by decide) (by decide),⟨"return",.non,1⟩,"takes",[],rfl,by trivial,by decide⟩
theorem bad2:BadC rb2:=⟨QY (by trivial) (by trivial) (by decide) (by decide),⟨"push",.int 1,1⟩,"end",[],rfl,by trivial,by decide⟩
theorem bad3:BadC rb3:=⟨QY (by trivial) (by trivial) (by decide) (by decide),⟨"endtry",.non,1⟩,"guard",[],rfl,by trivial,by decide⟩
theorem run0 (n:Nat):∃e sd k,runM rs0 [] n=some (e,sd,k):=by
 obtain ⟨fin,hf⟩:=z1S
 have s1:J9 rs0 ⟨[],[],[]⟩ [] [] 0=some (⟨[.int 1],[],[]⟩,[],[0],[.str "on"],some 1):=by rfl
 have s2:∃m,J9 rs0 ⟨[.int 1],[],[]⟩ [] [0] 1=some (m,[],[0,1],[.str "value",.int 1],none):=⟨_,by rfl⟩
 obtain ⟨m2,s2⟩:=s2
 have fin2:∃x,Z0 rs0 n 500 ⟨[],[],[]⟩ [] [] [.str "on"] (some 0)=some x:=by
  unfold Z0
  by_cases h0:0 < n
  ·rw [kA (show ([]:List Nat).length < n from h0),kA rfl,s1]
   dsimp only
   unfold Z0
   by_cases h1:1 < n
   ·rw [kA (show ([0]:List Nat).length < n from h1),kA rfl,s2]
    dsimp only
    unfold Z0
    exact ⟨_,rfl⟩
   ·rw [kz (show ¬([0]:List Nat).length < n from h1)]
    exact ⟨_,rfl⟩
  ·rw [kz (show ¬([]:List Nat).length < n from h0)]
   exact ⟨_,rfl⟩
 obtain ⟨⟨m,pas,e⟩,hl⟩:=fin2
 unfold runM
 rw [hf]
 dsimp only
 rw [z6l]
 dsimp only
 rw [hl]
 exact ⟨_,_,_,rfl⟩
def jT (H:Hp) (l:Addr):Prop:=∃as,H l=some (.lst (as.map V.ref))∧zL H as rs0
def Bad0 (H:Hp) (l:Addr):Prop:=∃as rs,H l=some (.lst (as.map V.ref))∧zL H as rs∧BadC rs
def z1Z (P:Program) (w:World) (K:ky) (c2 c3 c4:Addr):Sp:=fun vs H Q E=>∃way t l nm st,vs=[.int way,.ref t]∧H t=some (.tup [.ref l,nm,st])∧(way=0∨way=1)∧
 ((Bad0 H l∧∀H',Same H H'→E (.ref c4) none H')∨(jT H l∧NB P w H nm∧∀H',Same H H'→E (.ref c2) none H')∨
  (way=0∧jT H l∧ji H nm true∧Scal st∧qg st 0 100000=false∧∀H',Same H H'→E (.ref c3) none H')∨
  (way=0∧jT H l∧(∃(d:Addr) (n:Nat),nm=.ref d∧H d=some (.dK [])∧st=.int (n:Nat)∧n≤100000)∧∀y H',Same H H'→Q y H')∨
  (way=1∧jT H l∧ji H nm true∧∀ea H',Same H H'→SqT K H' ea [.str "on"]→Q (.ref ea) H'))
section
variable {CW CH c2 c3 c4:Addr}
theorem z3F:zj ["_law_way","_law_some","_law_code","_law_names","_law_steps"] ["_law_way","_law_some"] (zd (top 114)):=fsM
theorem z64 (D:zm K mg "_law_one" (top 114)) (c:ZD K CW) (hmW:mg "Walk"=some (.ref CW)) (FR:FN P w K mg base 13 "run" ["code","names","steps"] (z6M K)) (FB:FNX P w K mg base 13 "run" ["code","names","steps"] (z1X CW (QF c4))) (FN1:FNX P w K mg base 13 "run" ["code","names","steps"] (z1X CW (QE K (NB P w) c2))) (FS:FNX P w K mg base 13 "run" ["code","names","steps"] (z4O c3))
  (FI:IN P w K mg base 11 CW ["self","code","names"] (z0K K CW CH)) (IB:INX P w K mg base 11 CW ["self","code","names"] (QF c4)) (IN1:INX P w K mg base 11 CW ["self","code","names"] (QE K (NB P w) c2)) (FE:MN P w K mg base 1 CW "end" ["self"] (z3D K CW CH)):FNX P w K mg base 14 "_law_one" ["_law_way","_law_some"] (z1Z P w K c2 c3 c4):=by
 refine FNX.of D z3F (fun _ _ _ _ _ _=>zU2 fun _ _=>rfl) (fun vs H Q E h=>by obtain ⟨_,_,_,_,_,rfl,_⟩:=h;rfl) (fun f cdv A outer s H vs Q E hr h=>?_)
 obtain ⟨way,t,l,nm,st,rfl,ht,hway,h⟩:=h
 have hr1:=hr.mono (show 1≤13 by decide)
 have hr12:=hr.mono (show 12≤13 by decide)
 refine ⟨_,zb (qO (pv 1) (qU rfl (zp (zw (i:=2) z3F.nd rfl (Or.inl rfl)) (zp (zw (i:=3) z3F.nd rfl (Or.inl rfl)) (zp (zw (i:=4) z3F.nd rfl (Or.inl rfl)) qh)))))
  (zf (zk (qG (zn qC (pv 0) zh (zt _))
   (PE.or (zu FR hr rfl (z6 (pv 2) (z6 (pv 3) (z6 (pv 4) z8)))) (PE.or (Qo FB hr qa rfl rfl (z6 (pv 2) (z6 (pv 3) (z6 (pv 4) z8)))) (PE.or (Qo FN1 hr qa rfl rfl (z6 (pv 2) (z6 (pv 3) (z6 (pv 4) z8)))) (Qo FS hr qa rfl rfl (z6 (pv 2) (z6 (pv 3) (z6 (pv 4) z8)))))))
   (Jl (PE.or (z3R FI hr12 rfl hmW (z6 (pv 2) (z6 (pv 3) z8))) (PE.or (z2p IB hr12 qa rfl rfl hmW (z6 (pv 2) (z6 (pv 3) z8))) (z2p IN1 hr12 qa rfl rfl hmW (z6 (pv 2) (z6 (pv 3) z8))))) c.cl FE hr1)))),?_⟩
 refine ⟨_,rfl,t,_,rfl,SqT.of ht,rfl,_,_,rfl,_,_,rfl,_,_,rfl,rfl,?_⟩
 have mk:∀{x dx:Addr},H x=none→H dx=none→dx≠x→Same H (upd (upd H dx (.own x)) x (.ins CW dx [])):=fun {x dx} hx hdx ndx=>by
  have sA:=zg hdx (.own x)
  have hx':(upd H dx (.own x)) x=none:=by rw [ze ndx.symm];exact hx
  exact sA.trans (zg hx' (.ins CW dx []))
 obtain ⟨fin,hfin⟩:=z1S
 rcases hway with rfl | rfl
 ·refine ⟨_,rfl,rfl,true,rfl,iteT ?_⟩
  rcases h with ⟨⟨as,rs,hl,hR,hB⟩,q⟩ | ⟨⟨as,hl,hR⟩,hN,q⟩ | ⟨_,⟨as,hl,hR⟩,hT,hs,hw,q⟩ | ⟨_,⟨as,hl,hR⟩,⟨d,n,rfl,hd,rfl,hn⟩,q⟩ | ⟨z,_⟩
  ·refine .inr (.inl ⟨_,rfl,_,rfl,_,rfl,_,_,_,rfl,fun x dx hx hdx ndx=>?_⟩)
   have sB:=mk hx hdx ndx
   exact ⟨_,l,_,as,rs,rfl,sB _ _ hl,hR.same sB,hB,fun H' s'=>q H' (sB.trans s')⟩
  ·refine .inr (.inr (.inl ⟨_,rfl,_,rfl,_,rfl,_,_,_,rfl,fun x dx hx hdx ndx=>?_⟩))
   have sB:=mk hx hdx ndx
   exact ⟨_,l,_,as,rs0,fin,rfl,sB _ _ hl,hR.same sB,z3l,hfin,NB.same _ _ _ hN sB,fun H' s'=>q H' (sB.trans s')⟩
  ·obtain ⟨d,kvs,rfl,hd,hn⟩:=hT.names
   exact .inr (.inr (.inr ⟨_,rfl,_,rfl,_,rfl,l,d,as,rs0,fin,kvs,200,0,[],st,rfl,hl,hR,z3l,hfin,hd,hn,z6l,hs,hw,q⟩))
  ·obtain ⟨e,sd,k,hrun⟩:=run0 n
   exact .inl ⟨_,rfl,_,rfl,_,rfl,l,d,as,rs0,[],n,e,sd,k,rfl,hl,hR,z3l,hd,⟨by decide,fun p hp=>by cases hp⟩,hn,hrun,fun t ea tl H' s' _ _ _=>q _ H' s'⟩
  ·cases z
 ·refine ⟨_,rfl,rfl,false,rfl,iteF ?_⟩
  rcases h with ⟨⟨as,rs,hl,hR,hB⟩,q⟩ | ⟨⟨as,hl,hR⟩,hN,q⟩ | ⟨z,_⟩ | ⟨z,_⟩ | ⟨_,⟨as,hl,hR⟩,hT,q⟩
  ·refine .inr (.inl ⟨_,rfl,_,rfl,fun x dx hx hdx ndx=>?_⟩)
   have sB:=mk hx hdx ndx
   exact ⟨_,l,_,as,rs,rfl,sB _ _ hl,hR.same sB,hB,fun H' s'=>q H' (sB.trans s')⟩
  ·refine .inr (.inr ⟨_,rfl,_,rfl,fun x dx hx hdx ndx=>?_⟩)
   have sB:=mk hx hdx ndx
   exact ⟨_,l,_,as,rs0,fin,rfl,sB _ _ hl,hR.same sB,z3l,hfin,NB.same _ _ _ hN sB,fun H' s'=>q H' (sB.trans s')⟩
  ·cases z
  ·cases z
  ·obtain ⟨d,kvs,rfl,hd,hn⟩:=hT.names
   refine .inl ⟨_,rfl,_,rfl,fun x dx hx hdx ndx=>?_⟩
   have sB:=mk hx hdx ndx
   refine ⟨x,l,d,dx,as,rs0,fin,kvs,200,0,[],H,rfl,z7,hx,sB,sB _ _ hl,hR.same sB,z3l,hfin,sB _ _ hd,hn,z6l,fun a0 H1 hw W=>⟨rfl,?_⟩⟩
   subst hw
   obtain ⟨ea,i1,i2⟩:=W.ins
   exact ⟨a0.wk,_,_,rfl,i1,rfl,a0,_,_,_,_,_,_,_,W,rfl,fun ea' he=>q ea' H1 W.same he⟩
end
end My
set_option maxHeartbeats 4000000
namespace L2
open PySem PySem.Spec PyProof.Rows
noncomputable def qr (z:Str):List Str:=z.cps.toList.map fun c=>⟨#[c]⟩
noncomputable def Its (z:Str):It:=⟨fun i _=>i < (qr z).length,fun i H x H'=>H'=H∧∃c,(qr z)[i]?=some c∧x=.str c,fun i _=>(qr z).length≤i⟩
theorem z3t {P:Program} {w:World} {K:ky} {tg:Expr} (it:Addr) (z:Str) (t:Tok):Turn P w K tg (Its z) [it] it (fun i h=>h.IsStrIter it "str_ascii_iterator" z t i) where
 mem:=by simp
 obj:=fun i h st b hb=>by
  have e:b=it:=by simpa using hb
  subst e
  obtain ⟨o,e,c,d⟩:=st
  exact ⟨o,e,fun v z=>by rw [d] at z;cases z⟩
 keep:=fun i h h' st k=>let ⟨o,e,c,d⟩:=st;⟨o,k it (by simp) o e,c,d⟩
 item:=by
  intro X hP hw hK hc i pins s σ H E I hf st hg
  subst hP hw hK
  have hl:i < z.cps.size:=by
   have hg:i < (qr z).length:=hg
   unfold qr at hg
   rw [kj,Array.length_toList] at hg
   exact hg
  have hx:z.cps[i]?=some z.cps[i]:=by simp [hl]
  obtain ⟨f0,f1,f2,f3,f4,f5⟩:=hf it (by simp)
  refine wpAny_pyNext_ascii_item st hx fun h' st' sb=>?_
  have I1:Inv X pins σ H { s with heap:=h',toks:=s.toks+1 }:=I.turned (t':=s.toks+1) (fun b o hb e=>(sb.2 b hb).trans e) f0 f1 f3 f4 f5
  obtain ⟨o,e,c,d⟩:=id st'
  refine ⟨_,rfl,z4d (s:={ s with heap:=h',toks:=s.toks+1 }) e c d (by decide) ⟨.str ⟨#[z.cps[i]]⟩,H,I1,⟨_,rfl⟩,⟨rfl,_,?_,rfl⟩,st',fun b hb=>(hf b hb).1⟩⟩
  unfold qr
  rw [List.getElem?_map,Array.getElem?_toList,hx]
  rfl
 done:=by
  intro X hP hw hK hc i pins s σ H E I hf st hg
  subst hP hw hK
  have hl:z.cps.size≤i:=by
   have hg:(qr z).length≤i:=hg
   unfold qr at hg
   rw [kj,Array.length_toList] at hg
   exact hg
  obtain ⟨f0,f1,f2,f3,f4,f5⟩:=hf it (by simp)
  exact wpAny_pyNext_ascii_end (I.ok.hd hc) st (by simpa using hl) fun h' eb=>⟨rfl,I.turned (t':=s.toks) (fun b o hb e=>eb b o hb e) f0 f1 f3 f4 f5⟩
 self:=fun _ _ _ _ _ st h=>wpAny_pyIter_striter_ascii st h
section
variable {X:Cx} {tg:Expr}
def iStr (tl:TE):TI:=fun σ H R=>tl σ H fun x H1=>∃z,x=.str z∧z.cps.all (· < 128)=true∧R (Its z) H1
theorem z4W {l:Expr} {tl:TE} (hl:PE X l tl):PI X tg l (iStr tl):=by
 intro pins s σ H R I h
 refine thn (hl pins s σ H _ I h) fun v s1 zz=>?_
 obtain ⟨x,H1,I1,r1,q1⟩:=zz
 obtain ⟨z,e,ha,q⟩:=q1
 subst e
 obtain ⟨t,rfl⟩:=r1
 refine wpAny_pyIter_ascii ha ?_
 refine ⟨s1.heap.objs.size,[s1.heap.objs.size],_,_,H1,rfl,I1.kept (t':=s1.toks) fun b o e=>Heap.get?_push_of_some _ e,z3t _ z t,⟨_,Heap.get?_push_size _ rfl,rfl,rfl⟩,fun b hb=>?_,q⟩
 have e:b=s1.heap.objs.size:=by simpa using hb
 subst e
 exact I1.fpOk (ke _) (I1.hok.fresh (ke _))
def z7P (ta:TA):TE:=fun σ H Q=>ta σ H fun vs H1=>∃i j:Int,vs=[.int i,.int j]∧∀p,H1 p=none→Q (.ref p) (upd H1 p (.rng i j))
theorem z2n {a b:Expr} {ta:TA} {p pos:Pos} (hg:Gl X "range") (hm:X.mg "range"=none) (ha:PA X [a,b] ta) (hs:autoParam (starEach [a,b] X.env=[(false,eval a X.env),(false,eval b X.env)]) aR._auto_1) (hs2:autoParam (starEach [b] X.env=[(false,eval b X.env)]) aR._auto_1):
  PE X (.Call (.Name "range" p) [a,b] [] pos) (z7P ta):=by
 intro pins s σ H Q I h
 refine Call_ (Qt I hg hm boot_range (PyProof.Rows.callWith_type1 (thn (ha pos pins s σ H _ I h) fun us s1 ⟨vs,H1,I1,r1,q1⟩=>?_) (by rw [hs,hs2]) (by rw [hs2];rfl)))
 obtain ⟨i,j,e,q⟩:=q1
 subst e
 cases r1 with
 | cons r rr=>
  cases rr with
  | cons r' rr=>
   cases rr
   obtain ⟨t,rfl⟩:=r
   obtain ⟨t',rfl⟩:=r'
   have hn:=I1.hok.fresh (ke s1.heap.objs.size)
   exact call_range_2 ⟨.ref s1.heap.objs.size,_,I1.laid (a:=s1.heap.objs.size) (o:=.rng i j) (fun _ _ q=>Heap.get?_push_of_some _ q) (ke _) ⟨_,_,_,Heap.get?_push_size _ rfl⟩,rfl,q _ hn⟩
theorem z2t:OpR X (compareOp .In) (fun x y H Q=>∃(i lo hi:Int) (a:Addr),x=.int i∧y=.ref a∧H a=some (.rng lo hi)∧Q (.bl (decide (lo≤i)&&decide (i < hi))) H):=by
 intro pins s σ H x y v u Q I rx ry h
 obtain ⟨i,lo,hi,a,rfl,rfl,ha,q⟩:=h
 obtain ⟨t,rfl⟩:=rx
 cases ry
 obtain ⟨t1,t2,t3,ho⟩:=(show zZ X.prog X.w H s.heap a (.rng lo hi) from I.hok a _ ha)
 have hT:s.TypeIs (.ref a) "range":=⟨_,ho,rfl⟩
 refine PyProof.Rows.In_slot hT F.slot_range_contains (wpAny_call_entry F.slot_range_contains hT F.entry_range_contains ?_ (F.args_range_contains_2 _ _))
 show wpAny _ _ (do rule "range.contains.reckoned";let (a,b,c) ←Builtin.Range.rangeFields (.ref a);ret (.bool (Builtin.Range.rangePlace? a b c i).isSome)) _ _ s
 refine wpAny_bind (wpAny_rule ?_)
 unfold Builtin.Range.rangeFields
 refine wpAny_bind ?_
 refine wpAny_bind (wpAny_field ho rfl (x:=.int lo t1) rfl ?_)
 have ai:∀(k:Int) (t:Tok) (Q:Option Int→Shared→Prop),Q (some k) s→wpAny (model X.prog X.w) X.A.in1 (asInt? (.int k t)) Q X.xe s:=fun k t Q h=>by
  first | exact wpAny_pure h | exact wpAny_of_eq rfl h | (unfold asInt?;exact wpAny_pure h)
 refine wpAny_bind (ai _ _ _ ?_)
 refine wpAny_bind (wpAny_field ho rfl (x:=.int hi t2) rfl ?_)
 refine wpAny_bind (ai _ _ _ ?_)
 refine wpAny_bind (wpAny_field ho rfl (x:=.int 1 t3) rfl ?_)
 refine wpAny_bind (ai _ _ _ ?_)
 refine wpAny_pure ?_
 refine wpAny_pure ⟨_,rfl,wpAny_truthy_bool ⟨.bl _,H,I,?_,q⟩⟩
 show Value.bool _=Value.bool _
 congr 1
 unfold Builtin.Range.rangePlace?
 rw [kA (by decide:(1:Int) > 0)]
 by_cases h1:lo≤i <;> by_cases h2:i < hi <;> simp [h1,h2]
theorem z78 (hu:X.A.units < cLine):OpR X (compareOp .Eq) (fun x y H Q=>∃(l l':Addr) (xs:List V),x=.ref l∧y=.ref l'∧SqL X.K H l xs∧SqL X.K H l' []∧Q (.bl xs.isEmpty) H):=by
 intro pins s σ H x y v u Q I rx ry h
 obtain ⟨l,l',xs,rfl,rfl,hl,hl',q⟩:=h
 cases rx
 cases ry
 obtain ⟨its,rv,pl,_⟩:=I.list hl
 obtain ⟨its',rv',pl',_⟩:=I.list hl'
 cases rv'
 cases rv with
 | nil=>exact SeqAt.eq_listAt (e:=fun j=>true) pl.isList pl'.isList rfl hu (fun j h1 h2=>absurd h1 (by simp)) ⟨.bl _,H,I,rfl,q⟩
 | cons r t=>exact SeqAt.eq_list_lengthsAt pl.isList pl'.isList (by simp) hu ⟨.bl _,H,I,rfl,q⟩
theorem z75 (hu:X.A.units < cLine):OpR X (compareOp .NotEq) (fun x y H Q=>∃(l l':Addr) (xs:List V),x=.ref l∧y=.ref l'∧SqL X.K H l xs∧SqL X.K H l' []∧Q (.bl (!xs.isEmpty)) H):=by
 intro pins s σ H x y v u Q I rx ry h
 obtain ⟨l,l',xs,rfl,rfl,hl,hl',q⟩:=h
 cases rx
 cases ry
 obtain ⟨its,rv,pl,_⟩:=I.list hl
 obtain ⟨its',rv',pl',_⟩:=I.list hl'
 cases rv'
 cases rv with
 | nil=>exact SeqAt.RcNeAt.lists (e:=fun j=>true) pl.isList pl'.isList rfl hu (fun j h1 h2=>absurd h1 (by simp)) X.prog X.w X.xe _ ⟨.bl _,H,I,rfl,q⟩
 | cons r t=>exact SeqAt.RcNeAt.lists_lengths pl.isList pl'.isList (by simp) hu X.prog X.w X.xe _ ⟨.bl _,H,I,rfl,q⟩
end
end L2
set_option maxHeartbeats 8000000
namespace My
open PySem PySem.Spec PyProof.Rows L2
variable {P:Program} {w:World} {K:ky} {mg:Str→Option Value} {base:Heap}
theorem z8m {α β:Type} [BEq α] [LawfulBEq α] {x:α} {l:List (α × β)} (h:x∈l.map Prod.fst):∃c,l.lookup x=some c:=by
 induction l with
 | nil=>cases h
 | cons p t ih=>
  obtain ⟨a,b⟩:=p
  by_cases e:x=a
  ·subst e
   exact ⟨b,by simp [List.lookup]⟩
  ·obtain ⟨c,hc⟩:=ih (by simpa [e] using h)
   exact ⟨c,by simp [List.lookup,beq_eq_false_iff_ne.mpr e,hc]⟩
theorem qA.mk3 {X:Cx} {N:List Str} {nt:Nat} {ix:List Nat} {scope:Scope} {cl:List (Str × Addr)} {nm:List (Str × NameKind)} {ks:List Str} (clos:closureFor scope X.env=pure cl) (rel:(relabel scope X.env).names=nm)
  (h1:(∀y∈scope.names,y.2≠.cell)∧∀y∈scope.names,y.2=.local→scope.names.lookup y.1=some .local) (kind:scope.kind=.function) (hk:cl.map Prod.fst=ks) (sub:cl.map (fun p=>X.env.cells.lookup p.1)=cl.map fun p=>some p.2)
  (h2:∀y∈nm,(y.2=.cell∨y.2=.free)→y.1∈ks) (len:N.length=nt+ix.length) (f1:ix.map (fun i=>X.N[i]?)=(N.drop nt).map some)
  (f2:(N.drop nt).map (fun x=>(X.env.kindOf x,nm.lookup x))=(N.drop nt).map fun _=>(some .cell,some .cell)) (f3:(N.drop nt).map (fun x=>X.env.cells.lookup x)=(N.drop nt).map fun x=>cl.lookup x):qA X N nt ix scope cl where
 clos:=clos
 nocell:=h1.1
 kind:=kind
 names:=h1.2
 sub:=fun x c e=>by
  have:=List.map_inj_left.mp sub _ (PySem.mem_of_lookup e)
  exact this
 has:=fun x h=>by
  rw [rel] at h
  refine z8m (hk▸?_)
  rcases h with h | h
  ·exact h2 _ (PySem.mem_of_lookup h) (.inl rfl)
  ·exact h2 _ (PySem.mem_of_lookup h) (.inr rfl)
 len:=len
 free:=fun j x e=>by
  have hm:(N.drop nt)[j]?=some x:=by rw [List.getElem?_drop];exact e
  have hx:=kG hm
  have g:=congrArg (·[j]?) f1
  simp only [List.getElem?_map,hm,Option.map_some] at g
  obtain ⟨i,hi,g⟩:=Option.map_eq_some_iff.mp g
  have k:=List.map_inj_left.mp f2 _ hx
  injection k with k1 k2
  refine ⟨i,hi,g,k1,by rw [rel];exact k2,fun c h=>?_⟩
  rw [←List.map_inj_left.mp f3 _ hx]
  exact h
theorem z11 {z:Str} {g:TG} {tc:TT} {te:TE} {R:Hp→Prop} {H:Hp} {l:Addr} {σ0:L2.St} (Pv:Nat→List V→L2.St→Hp→Prop) (h0:Pv 0 [] σ0 (upd H l (.lst [])))
  (hs:∀i c ys σ H,(qr z)[i]?=some c→Pv i ys σ H→g (.str c) σ H fun σ2 H4=>tc σ2 H4 fun b H5=>if b=true then te σ2 H5 fun v H6=>H6 l=some (.lst ys)∧ys.length < sizeLine∧∃m',m' < (qr z).length - i∧m'=(qr z).length - (i+1)∧i+1≤(qr z).length∧Pv (i+1) (ys++[v]) σ2 (upd H6 l (.lst (ys++[v])))
   else ∃m',m' < (qr z).length - i∧m'=(qr z).length - (i+1)∧i+1≤(qr z).length∧Pv (i+1) ys σ2 H5) (hd:∀ys σ H,Pv (qr z).length ys σ H→R H):
  ∃W:Nat→Nat→List V→L2.St→Hp→Prop,(∃m,W 0 m [] σ0 (upd H l (.lst [])))∧∀i m ys σ' H2,W i m ys σ' H2→
   ((Its z).stop i H2∧R H2)∨((Its z).go i H2∧∀x H3,(Its z).yld i H2 x H3→g x σ' H3 fun σ2 H4=>tc σ2 H4 fun b H5=>if b=true then te σ2 H5 fun v H6=>H6 l=some (.lst ys)∧ys.length < sizeLine∧∃m',m' < m∧W (i+1) m' (ys++[v]) σ2 (upd H6 l (.lst (ys++[v])))
    else ∃m',m' < m∧W (i+1) m' ys σ2 H5):=by
 refine ⟨fun i m ys σ H=>m=(qr z).length - i∧i≤(qr z).length∧Pv i ys σ H,⟨(qr z).length,by simp,Nat.zero_le _,h0⟩,?_⟩
 rintro i m ys σ H ⟨rfl,hi,p⟩
 by_cases hlt:i < (qr z).length
 ·refine .inr ⟨hlt,fun x H' y=>?_⟩
  obtain ⟨e,c,ec,ex⟩:=y
  subst e ex
  exact hs i c ys σ _ ec p
 ·have e:i=(qr z).length:=by lia
  subst e
  exact .inl ⟨ke _,hd ys σ H p⟩
noncomputable def nin (L c:Str):Bool:= !(!(Builtin.Str.occurrences L c 0 L.length 1).isEmpty)
noncomputable def badS (L z:Str):List Str:=(qr z).filter (nin L)
theorem z02 {L z c:Str} {i:Nat} (h:(qr z)[i]?=some c):((qr z).take (i+1)).filter (nin L)=((qr z).take i).filter (nin L)++(if nin L c=true then [c] else []):=by
 rw [qI h,List.filter_append,List.filter_cons,List.filter_nil]
section
theorem z83:zj ["_law_thing"] ["_law_thing"] (zd (top 109)):=fsM
def spWh:Sp:=fun vs H Q _=>∃x,vs=[x]∧Val H x∧Q (.bl (Zj x)) H
theorem z8u (D:zm K mg "_law_whole" (top 109)) (G:Glo mg):FN P w K mg base 1 "_law_whole" ["_law_thing"] spWh:=by
 refine FN.o D z83 fun f cdv A outer s H vs Q E hr h=>?_
 obtain ⟨x,rfl,hx,q⟩:=h
 refine ⟨_,zf (zk (qj (zl zy rfl G.isinstance zi (z6 (pv 0) (z6 (qQ "int" rfl G.int J3) z8)))
  (qm (z0O (zl zy rfl G.isinstance zi (z6 (pv 0) (z6 (qQ "bool" rfl G.bool qL) z8))))))),?_⟩
 rcases hx with hx | hx
 ·obtain ⟨t1,ty1,k1⟩:=z0W (K:=K) (H:=H) hx
  obtain ⟨t2,ty2,k2⟩:=jC (K:=K) (H:=H) hx
  refine ⟨_,rfl,_,"int",t1,_,rfl,ty1,k1,_,rfl,?_⟩
  cases hx with
  | non=>exact q
  | bl b=>exact ⟨_,rfl,_,"bool",t2,_,rfl,ty2,k2,_,rfl,q⟩
  | int i=>exact ⟨_,rfl,_,"bool",t2,_,rfl,ty2,k2,_,rfl,q⟩
  | str s _=>exact q
 ·obtain ⟨t,ty,k1,k2,k3⟩:=hx.ty (K:=K)
  obtain ⟨a,xs,rfl,_⟩:=hx
  exact ⟨_,rfl,_,"int",t,_,rfl,ty,k1,_,rfl,iteF q⟩
noncomputable def Q9:Str:="abcdefghijklmnopqrstuvwxyzABCDEFGHIJKLMNOPQRSTUVWXYZ"
noncomputable def z52:List Str:=["Oops","","Oops1","ninesigns"]
inductive VG (H:Hp):V→Prop
 | non:VG H .non
 | bl (b:Bool):VG H (.bl b)
 | int (i:Int):VG H (.int i)
 | str (z:Str) (h:z∈z52):VG H (.str z)
 | seq {x:V} (h:SeqV H x):VG H x
theorem VG.same {H H':Hp} {x:V} (h:VG H x) (s:∀b o,H b=some o→(∀kvs,o≠.dK kvs)→H' b=some o):VG H' x:=by
 cases h with
 | non=>exact .non
 | bl b=>exact .bl b
 | int i=>exact .int i
 | str z h=>exact .str z h
 | seq h=>exact .seq (h.keep s)
theorem Jy:∀z∈z52,z.cps.all (· < 128)=true∧z.length≤10∧(qr z).length≤10∧((decide ((1:Int)≤(z.length:Int))&&decide ((z.length:Int) < 9))&&(badS Q9 z).isEmpty)=j6 (.str z) 1000000000000000000:=by trivial
theorem VG.val {H:Hp} {x:V} (h:VG H x):Val H x:=by
 cases h with
 | non=>exact .inl .non
 | bl b=>exact .inl (.bl b)
 | int i=>exact .inl (.int i)
 | str z h=>exact .inl (.str z (ku (Jy z h).2.1 (by decide)))
 | seq h=>exact .inr h
def spVG:Sp:=fun vs H Q _=>∃x,vs=[x,.int 1000000000000000000]∧VG H x∧∀H',Same H H'→Q (.bl (j6 x 1000000000000000000)) H'
noncomputable def N113:List Str:=["_law_thing","_law_top","_law_letters"]
theorem z6R:zj N113 ["_law_thing","_law_top"] (zd (top 113)):=fsM
noncomputable def z6k:Scope:=match (zE (top 113)).getD 1 (.Pass ⟨0,0,0,0⟩) with
 | .If _ [_,.Return (some (.BoolOp _ [_,.Compare (.ListComp _ _ s _) _ _ _] _)) _] _ _=>s
 | _=>zd (top 113)
noncomputable def z8g:List (Str × NameKind):=[(".0",.local),("_law_sign",.local),("_law_letters",.cell)]
noncomputable def z6n (L:Addr):List (Str × Addr):=[("_law_letters",L+1)]
noncomputable def z6u:List Str:=["_law_sign","_law_letters"]
theorem z8i:z6u.Nodup:=by trivial
theorem z8H {f:Addr} {cdv:Value} {A:Around} {outer:List Env} {s:Shared} {H:Hp} {E:XK}:
  qA (cxOf CX0 P w K mg base N113 "_law_value_good" (zd (top 113)) f cdv A outer s H E).nox z6u 1 [2] z6k (z6n s.heap.objs.size):=
 qA.mk3 (nm:=z8g) (ks:=(z6n 0).map Prod.fst) rfl rfl ⟨by trivial,by trivial⟩ rfl rfl rfl (by trivial) rfl rfl rfl rfl
theorem z8v (D:zm K mg "_law_value_good" (top 113)) (G:Glo mg) (FW:FN P w K mg base 1 "_law_whole" ["_law_thing"] spWh):FN P w K mg base 2 "_law_value_good" ["_law_thing","_law_top"] spVG:=by
 refine FN.o D z6R fun f cdv A outer s H vs Q E hr h=>?_
 obtain ⟨x,rfl,hx,q⟩:=h
 have hu:(A.deeper (envOfC "_law_value_good" (zd (top 113)) s.heap.objs.size f cdv)).units < cLine:=hr.units0
 refine ⟨_,zb (zJ (PW.pt (jx (zn jX (pv 0) zF (zt _)) (jx (zn z4Z (pv 0) qV (zt _)) (j9 (zn z4Z (pv 0) qV (zt _)))))) (zf (zk qV)) zq)
  (zb (zJ (zX (zl zy rfl G.isinstance zi (z6 (pv 0) (z6 (qQ "str" rfl G.str jK) z8))))
   (zb (zx (i:=2) z6R.nd rfl (Or.inr rfl) zo)
   (zf (zk (qj (qi z2t (zl jb rfl G.len zR (z6 (pv 0) z8)) (z2n rfl G.range (z6 zh (z6 zh z8))) rfl)
    (qm (qi (z78 hu) (ZL (N:=z6u) (nt:=1) (ix:=[2]) (cl:=z6n s.heap.objs.size) rfl z8H (z4W (pv 0)) (fun _ _ _ _=>zw (i:=0) z8i rfl (Or.inl rfl)) (fun _ _ _ _=>z0d (zn Zu (pv 0) (pv 1) rfl)) (fun _ _ _ _=>pv 0)) (qe z8) (zt _))))))) zq)
  (zf (zk (qj (zu FW hr rfl (z6 (pv 0) z8)) (qm (qi Zh (zl z13 rfl G.abs z14 (z6 (pv 0) z8)) (pv 1) (zt _))))))),?_⟩
 have q0:=q H (Same.refl _)
 cases hx with
 | non=>exact ⟨_,rfl,rfl,_,rfl,iteT (iteT q0)⟩
 | bl b=>
  cases b with
  | true=>exact ⟨_,rfl,rfl,_,rfl,iteF ⟨_,rfl,true,rfl,_,rfl,iteT (iteT q0)⟩⟩
  | false=>exact ⟨_,rfl,rfl,_,rfl,iteF ⟨_,rfl,true,rfl,_,rfl,iteF ⟨_,rfl,false,rfl,_,rfl,iteT q0⟩⟩⟩
 | int i=>
  refine ⟨_,rfl,rfl,_,rfl,iteF ⟨_,rfl,true,rfl,_,rfl,iteF ⟨_,rfl,false,rfl,_,rfl,iteF ?_⟩⟩⟩
  refine ⟨_,rfl,_,"str",_,false,rfl,.int i,rfl,_,rfl,iteF ?_⟩
  refine ⟨_,rfl,_,rfl,.inl (.int i),_,rfl,iteT ?_⟩
  refine ⟨_,rfl,i,rfl,_,rfl,_,_,rfl,rfl,?_⟩
  have e:j6 (.int i) 1000000000000000000=decide ((if i < 0 then -i else i)≤1000000000000000000):=by
   show (false||false||(decide (-1000000000000000000≤i)&&decide (i≤1000000000000000000))||false)=_
   by_cases h0:i < 0
   ·rw [kA h0]
    by_cases h1: -1000000000000000000≤i
    ·rw [ki h1,ki (show i≤1000000000000000000 by lia),ki (show -i≤1000000000000000000 by lia)];rfl
    ·rw [kh h1,kh (show ¬-i≤1000000000000000000 by lia)];rfl
   ·rw [kz h0,ki (show -1000000000000000000≤i by lia)]
    simp
  rw [e] at q0
  exact q0
 | seq hx=>
  obtain ⟨t,ty,k1,k2,k3⟩:=hx.ty (K:=K)
  have hv:Val H x:=.inr hx
  obtain ⟨a,xs,rfl,_⟩:=hx
  refine ⟨_,rfl,rfl,_,rfl,iteF ⟨_,rfl,true,rfl,_,rfl,iteF ⟨_,rfl,false,rfl,_,rfl,iteF ?_⟩⟩⟩
  refine ⟨_,rfl,_,"str",t,false,rfl,ty,k3,_,rfl,iteF ?_⟩
  exact ⟨_,rfl,_,rfl,hv,_,rfl,iteF q0⟩
 | str z hz=>
  obtain ⟨a1,a2,a3,a4⟩:=Jy z hz
  refine ⟨_,rfl,rfl,_,rfl,iteF ⟨_,rfl,true,rfl,_,rfl,iteF ⟨_,rfl,false,rfl,_,rfl,iteF ?_⟩⟩⟩
  refine ⟨_,rfl,_,"str",_,true,rfl,.str z,rfl,_,rfl,iteT ?_⟩
  refine ⟨_,rfl,z,rfl,ku a2 (by decide),1,9,rfl,fun rg hrg=>?_⟩
  have s1:=zg hrg (.rng 1 9)
  refine ⟨_,_,_,rg,rfl,rfl,z7,_,rfl,?_⟩
  rw [←a4] at q
  generalize upd H rg (.rng 1 9)=H1 at *
  by_cases c:(decide ((1:Int)≤(z.length:Int))&&decide ((z.length:Int) < 9))=true
  ·rw [c,Bool.true_and] at q
   rw [c]
   refine iteT ⟨_,rfl,z,rfl,a1,fun bl hbl=>?_⟩
   refine z11 (fun i ys σ H2=>(∃a,σ=[a,some (.str Q9)])∧ys=(((qr z).take i).filter (nin Q9)).map V.str∧Same H1 H2∧H2 bl=some (.lst ys)) ⟨⟨none,rfl⟩,rfl,zg hbl _,z7⟩ ?_ ?_
   ·rintro i ch ys σ H2 hi ⟨⟨a,rfl⟩,rfl,s2,hb2⟩
    have hil:=(kf.mp hi).1
    have st:=z02 (L:=Q9) hi
    refine ⟨_,rfl,_,rfl,ch,Q9,rfl,rfl,_,rfl,?_⟩
    have hsz:((((qr z).take i).filter (nin Q9)).map V.str).length < sizeLine:=by
     have h1:=List.length_filter_le (nin Q9) ((qr z).take i)
     rw [List.length_take] at h1
     rw [kj]
     exact zV (by lia)
    refine ite2 (fun c=>?_) (fun c=>?_)
    ·have c:nin Q9 ch=true:=c
     rw [kA c] at st
     exact ⟨_,rfl,hb2,hsz,_,by lia,rfl,by lia,⟨_,rfl⟩,by rw [st,kJ];rfl,My.Same.upd s2 hbl _,z7⟩
    ·have c:¬nin Q9 ch=true:=c
     rw [kz c,kU] at st
     exact ⟨_,by lia,rfl,by lia,⟨_,rfl⟩,by rw [st],s2,hb2⟩
   ·rintro ys σ H2 ⟨_,rfl,s2,hb2⟩
    rw [List.take_length] at hb2
    refine ⟨by show 0≤sizeLine;decide,fun p hp=>?_⟩
    have s3:=zg hp (.lst [])
    refine ⟨bl,p,_,rfl,rfl,SqL.of (s3 _ _ hb2),SqL.of z7,?_⟩
    rw [show (((qr z).filter (nin Q9)).map V.str).isEmpty=(badS Q9 z).isEmpty by rw [List.isEmpty_map];rfl]
    exact q _ ((s1.trans s2).trans s3)
  ·have c:=Bool.eq_false_iff.mpr c
   rw [c,Bool.false_and] at q
   rw [c]
   exact iteF (q _ s1)
end
theorem z3K {X:Cx} {e:Expr}:PW X e (fun _ _ _=>False):=by
 intro whole pins s σ H Q I h
 exact h.elim
theorem FN.thaw {P:Program} {w:World} {K:ky} {mg:Str→Option Value} {base:Heap} {k:Nat} {name:Str} {ps:List Str} {sp sp':Sp} (F:FN P w K mg base k name ps sp)
  (h:∀vs H Q E,sp' vs H Q E→sp vs H (fun v H1=>Q v H1∨∃d o kvs,H d=some (.dK kvs)∧H1 d=some (.frz o (.dK kvs))∧Q v (upd H1 d (.dK kvs))) E):FN P w K mg base k name ps sp':=by
 obtain ⟨f,fd,a,b,c,F⟩:=F
 refine ⟨f,fd,a,b,c,fun vs H Q E q=>F.len vs H _ E (h _ _ _ _ q),fun A outer s H args us vs Q E hr he hb hv hs=>codeAny_mono (F.run A outer s H args us vs _ E hr he hb hv (h _ _ _ _ hs)) fun r s' hq=>?_⟩
 cases r with
 | error e=>exact hq
 | ok fl=>
  cases fl with
  | ret u=>
   obtain ⟨v,H1,os,bare,un,ok,rv,q | ⟨d,o,kvs,hd,hd1,q⟩⟩:=hq
   ·exact ⟨v,H1,os,bare,un,ok,rv,q⟩
   ·have nn:∀b,H1 b=none→upd H1 d (.dK kvs) b=none:=fun b h=>by
     rw [ze (fun z=>by rw [z,hd1] at h;cases h)];exact h
    refine ⟨v,upd H1 d (.dK kvs),os,bare,⟨un.keep,un.slot,fun b o e n hx=>nn _ (un.free b o e n hx),un.there,fun b xs e=>?_,fun b o u e=>?_,fun b ps e=>?_⟩,fun b x e=>?_,rv,q⟩
    ·rw [ze (fun z=>by rw [z,hd] at e;cases e)];exact un.tups b xs e
    ·rw [ze (fun z=>by rw [z,hd] at e;cases e)];exact un.frzs b o u e
    ·obtain ⟨m,q⟩:=un.tbls b ps e
     exact ⟨m,by rw [ze (fun z=>by rw [z,hd] at e;cases e)];exact q⟩
    ·by_cases z:b=d
     ·subst z
      rw [z7] at e
      cases e
      obtain ⟨h1,z1,z2,vs',rel',dd'⟩:=(show zZ P w H1 s'.heap b (.frz o (.dK kvs)) from ok b _ hd1)
      exact ⟨z1,z2,vs',rel',dd'⟩
     ·rw [ze z] at e
      refine (ok b x e).stay (fun _ _ _ z=>z) (fun c z=>?_) fun c xs z=>?_
      ·rw [ze (fun y=>by rw [y,hd1] at z;cases z)];exact z
      ·rw [ze (fun y=>by rw [y,hd1] at z;cases z)];exact z
  | next=>exact hq
  | brk=>exact hq
  | cont=>exact hq
noncomputable def qE:Str:="abcdefghijklmnopqrstuvwxyz"
noncomputable def nmL:List Str:=["a","abcde","","A","abcd","a1","b","c","d","e","f","g","h","i"]
noncomputable def in4 (z:Str):Bool:=inV (.int (z.length:Int)) [.int 1,.int 2,.int 3,.int 4]
theorem z50:∀z∈nmL,z.cps.all (· < 128)=true∧z.length≤10∧(qr z).length≤10∧(in4 z&&(badS qE z).isEmpty)=jh (.str z):=by trivial
def LKy (k:Key):Prop:=(∃i,k=Sum.inl i)∨∃z∈nmL,k=Sum.inr z
theorem LKy.ok {k:Key} (h:LKy k):z4G k:=by
 rcases h with ⟨i,rfl⟩ | ⟨z,hz,rfl⟩
 ·intro z e;cases e
 ·intro z' e
  cases e
  exact ku (z50 z hz).2.1 (by decide)
inductive LT (H:Hp):V→Bool→Prop
 | non:LT H .non false
 | str (z:Str):LT H (.str z) false
 | lst {a:Addr} {xs:List V} (h:H a=some (.lst xs)):LT H (.ref a) false
 | tup {a:Addr} {xs:List V} (h:H a=some (.tup xs)):LT H (.ref a) false
 | many {d:Addr} {kvs:List (Key × V)} (h:H d=some (.dK kvs)) (hl:8 < kvs.length):LT H (.ref d) false
 | dct {d:Addr} {kvs:List (Key × V)} (h:H d=some (.dK kvs)) (hl:kvs.length≤8) (hk:∀p∈kvs,LKy p.1∧VG H p.2) (hv:∀p∈kvs,valV kvs p.1=some p.2):LT H (.ref d) (kvs.all gdN)
theorem LT.same {H H':Hp} {x:V} {g:Bool} (h:LT H x g) (s:Same H H'):LT H' x g:=by
 cases h with
 | non=>exact .non
 | str z=>exact .str z
 | lst h=>exact .lst (s _ _ h)
 | tup h=>exact .tup (s _ _ h)
 | many h hl=>exact .many (s _ _ h) hl
 | dct h hl hk hv=>exact .dct (s _ _ h) hl (fun p hp=>⟨(hk p hp).1,(hk p hp).2.same fun b o e _=>s _ _ e⟩) hv
theorem LT.thing {H:Hp} {x:V} {g:Bool} (h:LT H x g):ji H x g:=by
 cases h with
 | non=>exact .non
 | str z=>exact .str z
 | lst h=>exact .lst h
 | tup h=>exact .tup h
 | many h hl=>exact .many h hl
 | dct h hl hk hv=>exact .dct h hl fun p hp=>⟨(hk p hp).1.ok,(hk p hp).2.val⟩
section
noncomputable def N115:List Str:=["_law_thing","_law_small","_law_name"]
theorem z1d:zj N115 ["_law_thing"] (zd (top 115)):=fsM
noncomputable def z6j:Scope:=match (zE (top 115)).getD 2 (.Pass ⟨0,0,0,0⟩) with
 | .For _ _ [.If (.BoolOp _ [_,_,.Compare (.ListComp _ _ s _) _ _ _] _) _ _ _,_] _ _=>s
 | _=>zd (top 115)
noncomputable def z8f:List (Str × NameKind):=[(".0",.local),("_law_s",.local),("_law_small",.cell)]
noncomputable def z6m (L:Addr):List (Str × Addr):=[("_law_small",L+1)]
noncomputable def z6t:List Str:=["_law_s","_law_small"]
theorem z8h:z6t.Nodup:=by trivial
theorem z8G {f:Addr} {cdv:Value} {A:Around} {outer:List Env} {s:Shared} {H:Hp} {E:XK}:
  qA (cxOf CX0 P w K mg base N115 "_law_names_good" (zd (top 115)) f cdv A outer s H E).nox z6t 1 [1] z6j (z6m s.heap.objs.size):=
 qA.mk3 (nm:=z8f) (ks:=(z6m 0).map Prod.fst) rfl rfl ⟨by trivial,by trivial⟩ rfl rfl rfl (by trivial) rfl rfl rfl rfl
def z7Z:Sp:=fun vs H Q _=>∃x g,vs=[x]∧LT H x g∧(∀H',Same H H'→Q (.bl g) H')∧∀d o kvs H',H d=some (.dK kvs)→H' d=some (.frz o (.dK kvs))→Same H (upd H' d (.dK kvs))→Q (.bl g) H'
theorem z7B (D:zm K mg "_law_names_good" (top 115)) (G:Glo mg) (FV:FN P w K mg base 2 "_law_value_good" ["_law_thing","_law_top"] spVG):FN P w K mg base 3 "_law_names_good" ["_law_thing"] z7Z:=by
 refine FN.o D z1d fun f cdv A outer s H vs Q E hr h=>?_
 obtain ⟨x,g,rfl,hx,q,qf⟩:=h
 have hu1:=Zl hr
 have hu:(A.deeper (envOfC "_law_names_good" (zd (top 115)) s.heap.objs.size f cdv)).units < cLine:=hr.units0
 refine ⟨_,zb (zJ (PW.pt (jx (qw (zX (zl zy rfl G.isinstance zi (z6 (pv 0) (z6 (qQ "dict" rfl G.dict qY) z8)))))
   (j9 (zn z0i (zl Q7 rfl G.len zR (z6 (pv 0) z8)) zh (zt _))))) (zf (zk qV)) zq)
  (zb (zx (i:=1) z1d.nd rfl (Or.inr rfl) zo)
  (zb (Qn PassesOwn.never rfl (z3O (pv 0)) (zw (i:=2) z1d.nd rfl (Or.inl rfl))
   (zb (zJ (PW.pt (jx (qw (zX (zl zy rfl G.isinstance zi (z6 (pv 2) (z6 (qQ "str" rfl G.str jK) z8)))))
    (jx (zn Zv (zl jb rfl G.len zR (z6 (pv 2) z8)) (zB (z6 zh (z6 zh (z6 zh (z6 zh z8))))) rfl)
    (j9 (zn (z75 hu) (ZL (N:=z6t) (nt:=1) (ix:=[1]) (cl:=z6m s.heap.objs.size) rfl z8G (z4W (pv 2)) (fun _ _ _ _=>zw (i:=0) z8h rfl (Or.inl rfl)) (fun _ _ _ _=>z0d (zn Zu (pv 0) (pv 1) rfl)) (fun _ _ _ _=>pv 0)) (qe z8) (zt _)))))) (zf (zk qV)) zq)
   (zf (zJ (qw (zX (zu FV hr rfl (z6 (jy hu1 (pv 0) (pv 2) (fun _ _=>rfl)) (z6 (zY Jn zh zh) z8))))) (zf (zk qV)) zq))))
  (zf (zk qV)))),?_⟩
 cases hx with
 | non=>exact ⟨_,rfl,_,"dict",_,false,rfl,.non,rfl,_,rfl,iteT (q _ (Same.refl _))⟩
 | str z=>exact ⟨_,rfl,_,"dict",_,false,rfl,.str z,rfl,_,rfl,iteT (q _ (Same.refl _))⟩
 | lst h=>exact ⟨_,rfl,_,"dict",_,false,rfl,.lst h,rfl,_,rfl,iteT (q _ (Same.refl _))⟩
 | tup h=>exact ⟨_,rfl,_,"dict",_,false,rfl,.tup h,rfl,_,rfl,iteT (q _ (Same.refl _))⟩
 | @many d kvs hd hl=>
  refine ⟨_,rfl,_,"dict",_,true,rfl,.dK hd,rfl,_,rfl,iteF ?_⟩
  refine ⟨_,rfl,d,kvs,rfl,hd,_,_,rfl,rfl,_,rfl,?_⟩
  rw [ki (show ((8:Int) < (kvs.length:Int)) by lia)]
  exact iteT (q _ (Same.refl _))
 | @dct d kvs hd hn hall hval=>
 clear q
 refine ⟨_,rfl,_,"dict",_,true,rfl,.dK hd,rfl,_,rfl,iteF ?_⟩
 refine ⟨_,rfl,d,kvs,rfl,hd,_,_,rfl,rfl,_,rfl,?_⟩
 rw [kh (show ¬((8:Int) < (kvs.length:Int)) by lia)]
 refine iteF ⟨_,rfl,d,kvs,rfl,hd,fun o=>?_⟩
 have back:∀H3,H3 d=some (.frz o (.dK kvs))→(∀b o',H b=some o'→b≠d→H3 b=some o')→Q (.bl (kvs.all gdN)) H3:=fun H3 h1 h2=>qf d o kvs H3 hd h1 fun b o' e=>by
  by_cases z:b=d
  ·subst z;rw [hd] at e;cases e;exact z7
  ·rw [ze z];exact h2 b o' e z
 have no:∀{p:Key × V},p∈kvs→gdN p=false→kvs.all gdN=false:=fun {p} hp hg=>by
  cases e:kvs.all gdN with
  | false=>rfl
  | true=>rw [List.all_eq_true.mp e p hp] at hg;cases hg
 refine z2Y (kvV:=kV) (fun i σ H2=>(∃a,σ=[some (.ref d),some (.str qE),a])∧H2 d=some (.frz o (.dK kvs))∧(∀b o',H b=some o'→b≠d→H2 b=some o')∧(kvs.take i).all gdN=true) ⟨⟨none,rfl⟩,z7,fun b o' e hb=>by rw [ze hb];exact e,rfl⟩ (fun i σ H2 _ h=>h.2.1) ?_ ?_
 ·rintro i k v σ H2 hi ⟨⟨a,rfl⟩,hd2,kp,hpre⟩
  have hmem:(k,v)∈kvs:=kG hi
  obtain ⟨hk,hvg⟩:=hall _ hmem
  have up:∀{H3},Same H2 H3→H3 d=some (.frz o (.dK kvs))∧∀b o',H b=some o'→b≠d→H3 b=some o':=fun s=>⟨s _ _ hd2,fun b o' e hb=>s _ _ (kp b o' e hb)⟩
  rcases hk with ⟨n,ek⟩ | ⟨z,hz,ek⟩
  ·have ek:k=Sum.inl n:=ek
   subst ek
   refine ⟨_,rfl,_,"str",_,false,rfl,.int n,rfl,_,rfl,iteT ?_⟩
   have:=back H2 hd2 kp
   rw [no hmem rfl] at this
   exact this
  ·have ek:k=Sum.inr z:=ek
   subst ek
   obtain ⟨a1,a2,a3,a4⟩:=z50 z hz
   refine ⟨_,rfl,_,"str",_,true,rfl,.str z,rfl,_,rfl,iteF ?_⟩
   refine ⟨_,rfl,z,rfl,ku a2 (by decide),by show 4≤sizeLine;decide,fun p4 hp4=>?_⟩
   have s1:=zg hp4 (.tup [.int 1,.int 2,.int 3,.int 4])
   refine ⟨p4,_,rfl,.inr (SqT.of z7),rfl,rfl,_,rfl,?_⟩
   generalize upd H2 p4 (.tup [.int 1,.int 2,.int 3,.int 4])=H3 at *
   have en:jh (kV (Sum.inr z))=jh (.str z):=rfl
   refine ite2 (fun c=>?_) (fun c=>?_)
   ·have c:in4 z=false:=by
     have c:(!in4 z)=true:=c
     simpa using c
    have:=back H3 (up s1).1 (up s1).2
    rw [no hmem (by unfold gdN;rw [en,←a4,c];rfl)] at this
    exact iteT this
   have c:in4 z=true:=by
    have c:¬(!in4 z)=true:=c
    simpa using c
   rw [c,Bool.true_and] at a4
   refine ⟨_,rfl,z,rfl,a1,fun bl hbl=>?_⟩
   refine z11 (fun j ys σ H4=>(∃a,σ=[a,some (.str qE)])∧ys=(((qr z).take j).filter (nin qE)).map V.str∧Same H3 H4∧H4 bl=some (.lst ys)) ⟨⟨none,rfl⟩,rfl,zg hbl _,z7⟩ ?_ ?_
   ·rintro j ch ys σ H4 hj ⟨⟨a,rfl⟩,rfl,s2,hb2⟩
    have hil:=(kf.mp hj).1
    have st:=z02 (L:=qE) hj
    refine ⟨_,rfl,_,rfl,ch,qE,rfl,rfl,_,rfl,?_⟩
    have hsz:((((qr z).take j).filter (nin qE)).map V.str).length < sizeLine:=by
     have h1:=List.length_filter_le (nin qE) ((qr z).take j)
     rw [List.length_take] at h1
     rw [kj]
     exact zV (by lia)
    refine ite2 (fun c=>?_) (fun c=>?_)
    ·have c:nin qE ch=true:=c
     rw [kA c] at st
     exact ⟨_,rfl,hb2,hsz,_,by lia,rfl,by lia,⟨_,rfl⟩,by rw [st,kJ];rfl,My.Same.upd s2 hbl _,z7⟩
    ·have c:¬nin qE ch=true:=c
     rw [kz c,kU] at st
     exact ⟨_,by lia,rfl,by lia,⟨_,rfl⟩,by rw [st],s2,hb2⟩
   ·rintro ys σ H4 ⟨_,rfl,s2,hb2⟩
    rw [List.take_length] at hb2
    refine ⟨by show 0≤sizeLine;decide,fun p5 hp5=>?_⟩
    have s3:=zg hp5 (.lst [])
    refine ⟨bl,p5,_,rfl,rfl,SqL.of (s3 _ _ hb2),SqL.of z7,_,rfl,?_⟩
    have s13:=(s1.trans s2).trans s3
    generalize upd H4 p5 (.lst [])=H5 at *
    rw [show (((qr z).filter (nin qE)).map V.str).isEmpty=(badS qE z).isEmpty by rw [List.isEmpty_map];rfl,a4]
    have u5:=up s13
    cases hnm:jh (.str z) with
    | false=>
     have:=back H5 u5.1 u5.2
     rw [no hmem (by unfold gdN;rw [en,hnm];rfl)] at this
     exact iteT this
    | true=>
     refine iteF ?_
     have hdg:DGet H5 d (kV (Sum.inr z)) (some v):=.inl ⟨kvs,Sum.inr z,.inr ⟨o,u5.1⟩,rfl,(hval _ hmem).symm⟩
     have eg:gdN ((Sum.inr z:Key),v)=j6 v 1000000000000000000:=by unfold gdN;rw [en,hnm];rfl
     refine ⟨_,rfl,_,rfl,d,_,rfl,hdg,10,18,rfl,rfl,⟨by decide,by decide,by decide⟩,v,congrArg (fun i=>[v,V.int i]) (by trivial),hvg.same fun b o' e hne=>u5.2 b o' e fun z=>by rw [z,hd] at e;cases e;exact hne _ rfl,fun H6 s6=>?_⟩
     have u6:=up (s13.trans s6)
     cases hvv:j6 v 1000000000000000000 with
     | false=>
      have:=back H6 u6.1 u6.2
      rw [no hmem (by rw [eg,hvv])] at this
      exact ⟨_,rfl,iteT this⟩
     | true=>
      refine ⟨_,rfl,iteF ⟨⟨_,rfl⟩,u6.1,u6.2,?_⟩⟩
      rw [qI hi,List.all_append,hpre,List.all_cons,eg,hvv]
      rfl
 ·rintro σ H2 ⟨_,hd2,kp,hpre⟩
  rw [List.take_length] at hpre
  have:=back H2 hd2 kp
  rw [hpre] at this
  exact this
def spNG:Sp:=fun vs H Q _=>∃x g,vs=[x]∧LT H x g∧∀H',Same H H'→Q (.bl g) H'
theorem z8A (D:zm K mg "_law_names_good" (top 115)) (G:Glo mg) (FV:FN P w K mg base 2 "_law_value_good" ["_law_thing","_law_top"] spVG):FN P w K mg base 3 "_law_names_good" ["_law_thing"] spNG:=
 FN.thaw (z7B D G FV) fun vs H Q E h=>by
  obtain ⟨x,g,rfl,hx,q⟩:=h
  exact ⟨x,g,rfl,hx,fun H' s'=>.inl (q H' s'),fun d o kvs H' h1 h2 h3=>.inr ⟨d,o,kvs,h1,h2,q _ h3⟩⟩
def z5g (P:Program) (w:World):Sp:=fun vs H Q _=>∃x,vs=[x]∧NoT P w H x∧∀H',Same H H'→Q (.bl false) H'
theorem z7A (D:zm K mg "_law_names_good" (top 115)) (G:Glo mg):FN P w K mg base 3 "_law_names_good" ["_law_thing"] (z5g P w):=by
 refine FN.o D z1d fun f cdv A outer s H vs Q E hr h=>?_
 obtain ⟨x,rfl,⟨d,o,v0,rfl,hd,nd,hv0⟩,q⟩:=h
 refine ⟨_,zb (zJ (PW.pt (jx (qw (zX (zl JW rfl G.isinstance zi (z6 (pv 0) (z6 (qQ "dict" rfl G.dict qY) z8)))))
   (j9 (zn z0i (zl JV rfl G.len zR (z6 (pv 0) z8)) zh (zt _))))) (zf (zk qV)) zq)
  (zb (zx (i:=1) z1d.nd rfl (Or.inr rfl) zo)
  (zb (Qn PassesOwn.never rfl (z3N (pv 0)) (zw (i:=2) z1d.nd rfl (Or.inl rfl))
   (zb (zJ (PW.pt (jx (qw (zX (zl zy rfl G.isinstance zi (z6 (pv 2) (z6 (qQ "str" rfl G.str jK) z8))))) z3K)) (zf (zk qV)) zq)
   zP))
  zP)),?_⟩
 refine ⟨_,rfl,d,o,_,"dict",true,rfl,hd,nd,rfl,_,rfl,iteF ?_⟩
 refine ⟨_,rfl,d,o,_,rfl,hd,nd,by show 2≤1000;decide,_,_,rfl,rfl,false,rfl,iteF ?_⟩
 refine ⟨_,rfl,d,o,_,rfl,hd,nd,?_⟩
 refine ⟨fun i m σ H2=>i=0∧σ=[some (.ref d),some (.str qE),none]∧H2=H,⟨0,rfl,rfl,rfl⟩,?_⟩
 rintro i m σ H2 ⟨rfl,rfl,rfl⟩
 refine .inr ⟨⟨hd,by show 0 < 2;decide⟩,fun _ _=>False,fun _ _ z=>z.elim,fun x H' y=>?_⟩
 obtain ⟨e,k,v,ex,ek⟩:=y
 subst e ex
 cases ek
 exact ⟨_,rfl,_,"str",_,false,rfl,.non,rfl,_,rfl,iteT (iteT (q _ (Same.refl _)))⟩
end
set_option maxHeartbeats 4000000
def Scr (K:ky) (H:Hp) (a:Addr) (xs:List V):Prop:=
 (∃o,H a=some (.frz o (.lst xs)))∨∃(o:Obj) (its:Array Value) (n:Nat),K.lookup a=some o∧o.cls=.type "list"∧o.dict=none∧o.data=.seq its n∧its.size≤sizeLine∧Vals xs its.toList
theorem Scr.sq {K:ky} {H:Hp} {a:Addr} {xs:List V} (h:Scr K H a xs):SqL K H a xs:=by
 rcases h with ⟨o,h⟩ | h
 ·exact .inl (.inr ⟨o,h⟩)
 ·exact .inr h
theorem Scr.keep {K:ky} {H H':Hp} {a:Addr} {xs:List V} (h:Scr K H a xs) (k:∀o u,H a=some (.frz o u)→H' a=some (.frz o u)):Scr K H' a xs:=by
 rcases h with ⟨o,h⟩ | h
 ·exact .inl ⟨o,k _ _ h⟩
 ·exact .inr h
theorem Scr.keep1 {K:ky} {H H':Hp} {a t:Addr} {xs ys:List V} (h:Scr K H a xs) (k:jM H H' t) (ht:H t=some (.lst ys)):Scr K H' a xs:=h.keep fun o u e=>k _ _ e (zD e ht nofun)
noncomputable def je (c:Nat) (cells:List Int):List V:=.int (c:Int) :: cells.map V.int
section
def Jc (K:ky):Sp:=fun vs H Q _=>∃(a t:Addr) (ns:List Int) (c:Nat) (cells:List Int) (many:Int),vs=[.ref a,.ref t,.int many]∧Scr K H a (ns.map V.int)∧ns.length≤1000∧cells.length=ns.length∧H t=some (.lst (je c cells))∧c≤100000∧1≤many∧many≤1000∧
 ∀(i:Int) (cells':List Int) H',0≤i→i < many→cells'.length=ns.length→H' t=some (.lst (je (c+1) cells'))→jM H H' t→Q (.int i) H'
theorem z2c:zj ["_law_script","_law_town_here","_law_many","_law_at","_law_left","_law_number"] ["_law_script","_law_town_here","_law_many"] (zd (top 107)):=fsM
theorem z4f {cells:List Int} {i:Int} (h0:0≤i) (h1:i < (cells.length:Int)) (c:Nat):∃z,atI (je c cells) (1+i)=some (.int z):=by
 obtain ⟨j,rfl⟩:=kY h0
 have hj:j < cells.length:=by lia
 have e:(1:Int)+(j:Int)=((j+1:Nat):Int):=by lia
 refine ⟨cells[j],?_⟩
 rw [e]
 refine zr ?_
 unfold je
 rw [List.getElem?_cons_succ,List.getElem?_map,kK hj]
 rfl
theorem z1u {ns:List Int} {i:Int} (h0:0≤i) (h1:i < (ns.length:Int)):∃z,atI (ns.map V.int) i=some (.int z):=by
 obtain ⟨j,rfl⟩:=kY h0
 have hj:j < ns.length:=by lia
 refine ⟨ns[j],zr ?_⟩
 rw [List.getElem?_map,kK hj]
 rfl
theorem z3E {c:Nat} {cells:List Int} {i:Int} (h0:0≤i) (h1:i < (cells.length:Int)) (z:Int):∃j cells',ixN (je c cells).length (1+i)=some j∧(je c cells).set j (.int z)=je c cells'∧cells'.length=cells.length:=by
 obtain ⟨j,rfl⟩:=kY h0
 refine ⟨j+1,cells.set j z,?_,?_,by simp⟩
 ·unfold ixN je
  rw [kA (by lia),kA (by simp;lia)]
  congr 1
  lia
 ·unfold je
  rw [List.set_cons_succ,List.map_set]
theorem ix0 {c:Nat} {cells:List Int}:ixN (je c cells).length 0=some 0:=by
 unfold ixN je
 rw [kA (by decide),kA (by simp <;> lia)]
 rfl
theorem z6b (D:zm K mg "_law_draw" (top 107)) (G:Glo mg):FN P w K mg base 1 "_law_draw" ["_law_script","_law_town_here","_law_many"] (Jc K):=by
 refine FN.o D z2c fun f cdv A outer s H vs Q E hr h=>?_
 obtain ⟨a,t,ns,c,cells,many,rfl,hS,hns,hcl,hT,hc,hm1,hm2,q⟩:=h
 have hu:A.units+3 < cLine:=by have:=hr.units0;exact this
 refine ⟨_,zb (qO (zY jz (zS zN (pv 1) zh (fun _ _=>rfl)) zh) (ZX (pv 1) zh jk))
  (zb (zJ (zn (z77 (hr.units0)) (pv 0) (qe z8) (zt _))
   (zf (zk (zY ZZ (zY QN (zY Jo (zY Jo (zS zN (pv 1) zh (fun _ _=>rfl)) (zS zN (pv 1) zh (fun _ _=>rfl))) zh) zh) (pv 2)))) zq)
  (zb (zx (i:=3) z2c.nd rfl (Or.inl rfl) (zY ZZ (zS zN (pv 1) zh (fun _ _=>rfl)) (zl qb rfl G.len zR (z6 (pv 0) z8))))
  (zb (zx (i:=4) z2c.nd rfl (Or.inl rfl) (zS zN (pv 1) (zY jz zh (pv 3)) (fun _ _=>rfl)))
  (zb (zJ (PW.pt (ZV (zn z8e (zS zN (pv 0) (pv 3) (fun _ _=>rfl)) (zY Jn zh zh) (zt _)) (jO (zn z0i (pv 4) zh (zt _)))))
   (zb (qO (zY QN (pv 4) (pv 2)) (ZX (pv 1) (zY jz zh (pv 3)) jk)) (zf (zk (zY ZZ (pv 4) (pv 2))))) zq)
  (zb (zx (i:=5) z2c.nd rfl (Or.inl rfl) (zY ZZ (zY jz (zS zN (pv 0) (pv 3) (fun _ _=>rfl)) (zY Jo zh (zS zN (pv 1) zh (fun _ _=>rfl)))) zh))
  (zb (zx (i:=5) z2c.nd rfl (Or.inl rfl) (zY ZZ (zY Jn (pv 5) zh) zh))
  (zf (zk (zY ZZ (zY QN (zY ZZ (zY jz (zY Jo (zY QN (pv 5) zh) zh) (pv 5)) zh) zh) (pv 2)))))))))),?_⟩
 have hmod:∀x:Int,0≤x % many∧x % many < many:=fun x=>⟨Int.emod_nonneg _ (by lia),Int.emod_lt_of_pos _ (by lia)⟩
 have cdm:CDiv 0 many:=⟨by lia,by lia⟩
 refine ⟨_,rfl,t,_,_,_,rfl,rfl,SqL.of hT,zr (j:=0) rfl,_,_,rfl,rfl,?_⟩
 refine ⟨_,rfl,t,_,_,0,rfl,rfl,hT,ix0,?_⟩
 have e1:(je c cells).set 0 (V.int ((c:Int)+1))=je (c+1) cells:=by
  unfold je
  rw [List.set_cons_zero]
  rfl
 rw [e1]
 generalize hH1:upd H t (.lst (je (c+1) cells))=H1
 have hT1:H1 t=some (.lst (je (c+1) cells)):=by rw [←hH1];exact z7
 have k1:jM H H1 t:=fun b o e hb=>by rw [←hH1,ze hb];exact e
 have hS1:=hS.keep1 k1 hT
 refine ⟨_,rfl,by show 0≤sizeLine;decide,fun p hp=>?_⟩
 have s2:Same H1 (upd H1 p (.lst [])):=zg hp _
 have hT2:=s2 _ _ hT1
 have hS2:Scr K (upd H1 p (.lst [])) a (ns.map V.int):=hS1.keep fun o u e=>s2 _ _ e
 have k2:jM H (upd H1 p (.lst [])) t:=fun b o e hb=>s2 _ _ (k1 b o e hb)
 generalize hH2:upd H1 p (.lst [])=H2 at *
 have hp2:H2 p=some (.lst []):=by rw [←hH2];exact z7
 refine ⟨a,p,_,rfl,rfl,hS2.sq,SqL.of hp2,_,rfl,?_⟩
 refine ite2 (fun ce=>?_) (fun ce=>?_)
 ·refine ⟨_,rfl,t,_,_,_,rfl,rfl,SqL.of hT2,zr (j:=0) rfl,_,rfl,t,_,_,_,rfl,rfl,SqL.of hT2,zr (j:=0) rfl,_,_,rfl,rfl,.inl ⟨by lia,by lia⟩,_,_,rfl,rfl,.inr ⟨by decide,by decide⟩,_,_,rfl,rfl,⟨by decide,by decide⟩,_,rfl,_,_,rfl,rfl,by lia,?_⟩
  exact q _ cells H2 (hmod _).1 (hmod _).2 hcl hT2 k2
 ·have hne:ns≠[]:=fun z=>ce (by rw [z];rfl)
  have hpos:0 < ns.length:=List.length_pos_iff.mpr hne
  refine ⟨_,rfl,t,_,_,_,rfl,rfl,SqL.of hT2,zr (j:=0) rfl,_,rfl,a,_,rfl,.inl hS2.sq,_,_,rfl,rfl,by rw [kj];lia,?_⟩
  rw [kj]
  have a0:0≤((c+1:Nat):Int) % (ns.length:Int):=Int.emod_nonneg _ (by lia)
  have a1:((c+1:Nat):Int) % (ns.length:Int) < (ns.length:Int):=Int.emod_lt_of_pos _ (by lia)
  obtain ⟨z,hz⟩:=z4f (cells:=cells) a0 (by rw [hcl];exact a1) (c+1)
  obtain ⟨y,hy⟩:=z1u (ns:=ns) a0 a1
  refine ⟨_,rfl,_,rfl,_,_,rfl,rfl,t,_,_,_,rfl,rfl,SqL.of hT2,hz,?_⟩
  refine ⟨_,rfl,_,rfl,a,_,_,_,rfl,rfl,hS2.sq,hy,_,_,rfl,rfl,⟨by decide,by decide,by decide⟩,_,_,rfl,rfl,_,rfl,?_⟩
  have rest:tSeq (tAsg (tOp (rI (fun _ j=>0 < j) fun i j=>.int (i % j)) (tOp (rI0 fun i j=>.int (i+j)) (tOp (rIxL K) (tVar 0) (tVar 3)) (tOp (rI CMul fun i j=>.int (i * j)) (tC (.int 104729)) (tOp (rIxL K) (tVar 1) (tC (.int 0))))) (tC (.int 4294967291))) (z2T 5))
    (tSeq (tAsg (tOp (rI (fun _ j=>0 < j) fun i j=>.int (i % j)) (tOp (rI CPow fun i j=>.int (i ^ j.toNat)) (tVar 5) (tC (.int 5))) (tC (.int 4294967279))) (z2T 5))
    (tRet (tOp (rI (fun _ j=>0 < j) fun i j=>.int (i % j)) (tOp (rI CDiv fun i j=>.int (i / j)) (tOp (rI (fun _ j=>0 < j) fun i j=>.int (i % j)) (tOp (rI0 fun i j=>.int (i+j)) (tOp (rI CMul fun i j=>.int (i * j)) (tOp (rI CDiv fun i j=>.int (i / j)) (tVar 5) (tC (.int 64))) (tC (.int 69621))) (tVar 5)) (tC (.int 4294967231))) (tC (.int 8))) (tVar 2))))
    { nx:=fun _ H'=>Q .non H',rt:=Q } [some (.ref a),some (.ref t),some (.int many),some (.int (((c+1:Nat):Int) % (ns.length:Int))),some (.int z),none] H2:=by
   refine ⟨_,rfl,_,rfl,a,_,_,_,rfl,rfl,hS2.sq,hy,_,rfl,t,_,_,_,rfl,rfl,SqL.of hT2,zr (j:=0) rfl,_,_,rfl,rfl,.inl ⟨by decide,by decide⟩,_,_,rfl,rfl,_,_,rfl,rfl,(by show (0:Int) < 4294967291;decide),?_⟩
   have b0:0≤(y+104729 * ((c+1:Nat):Int)) % 4294967291:=Int.emod_nonneg _ (by decide)
   have b1:(y+104729 * ((c+1:Nat):Int)) % 4294967291 < 4294967291:=Int.emod_lt_of_pos _ (by decide)
   refine ⟨_,rfl,_,_,rfl,rfl,⟨by decide,by decide,?_⟩,_,_,rfl,rfl,(by show (0:Int) < 4294967279;decide),?_⟩
   ·show ((y+104729 * ((c+1:Nat):Int)) % 4294967291).natAbs < 2 ^ 64
    lia
   refine ⟨_,rfl,_,_,rfl,rfl,⟨by decide,by decide⟩,_,_,rfl,rfl,.inr ⟨by decide,by decide⟩,_,rfl,_,_,rfl,rfl,_,_,rfl,rfl,(by show (0:Int) < 4294967231;decide),_,_,rfl,rfl,⟨by decide,by decide⟩,_,rfl,_,_,rfl,rfl,by lia,?_⟩
   exact q _ cells H2 (hmod _).1 (hmod _).2 hcl hT2 k2
  refine ite2 (fun c1=>?_) (fun c1=>?_)
  ·refine ⟨_,rfl,_,_,rfl,rfl,_,rfl,?_⟩
   refine ite2 (fun c2=>?_) (fun c2=>rest)
   obtain ⟨j,cells',hj,hset,hl'⟩:=z3E (c:=c+1) (cells:=cells) a0 (by rw [hcl];exact a1) (z / many)
   refine ⟨_,rfl,_,rfl,_,_,rfl,rfl,⟨by lia,by lia⟩,?_⟩
   refine ⟨_,rfl,_,rfl,_,_,rfl,rfl,t,_,_,j,rfl,rfl,hT2,hj,?_⟩
   rw [hset]
   refine ⟨_,rfl,_,rfl,_,_,rfl,rfl,by lia,?_⟩
   exact q _ cells' _ (hmod _).1 (hmod _).2 (hl'.trans hcl) z7 fun b o e hb=>by rw [ze hb];exact k2 b o e hb
  ·exact iteF rest
end
set_option maxHeartbeats 8000000
section
def jU (K:ky):Sp:=fun vs H Q _=>∃(a t p:Addr) (ns:List Int) (c:Nat) (cells:List Int) (xs:List V),vs=[.ref a,.ref t,.ref p]∧Scr K H a (ns.map V.int)∧ns.length≤1000∧cells.length=ns.length∧H t=some (.lst (je c cells))∧c≤100000∧H p=some (.lst xs)∧p≠t∧1≤xs.length∧xs.length≤1000∧
 ∀(v:V) (cells':List Int) H',v∈xs→cells'.length=ns.length→H' t=some (.lst (je (c+1) cells'))→jM H H' t→Q v H'
theorem z84:zj ["_law_script","_law_town_here","_law_some"] ["_law_script","_law_town_here","_law_some"] (zd (top 108)):=fsM
theorem z5X (D:zm K mg "_law_pick" (top 108)) (G:Glo mg) (FD:FN P w K mg base 1 "_law_draw" ["_law_script","_law_town_here","_law_many"] (Jc K)):FN P w K mg base 2 "_law_pick" ["_law_script","_law_town_here","_law_some"] (jU K):=by
 refine FN.o D z84 fun f cdv A outer s H vs Q E hr h=>?_
 obtain ⟨a,t,p,ns,c,cells,xs,rfl,hS,hns,hcl,hT,hc,hp,hpt,hx1,hx2,q⟩:=h
 refine ⟨_,zf (zk (zS zN (pv 2) (zu FD hr rfl (z6 (pv 0) (z6 (pv 1) (z6 (zl qb rfl G.len zR (z6 (pv 2) z8)) z8)))) (fun _ _=>rfl))),?_⟩
 refine ⟨_,rfl,_,rfl,_,rfl,_,rfl,p,_,rfl,.inl (SqL.of hp),a,t,ns,c,cells,_,rfl,hS,hns,hcl,hT,hc,by lia,by lia,fun i cells' H' h0 h1 hl' hT' k'=>?_⟩
 obtain ⟨j,rfl⟩:=kY h0
 have hj:j < xs.length:=by lia
 exact ⟨p,_,_,xs[j],rfl,rfl,SqL.of (k' p _ hp hpt),zr (kK hj),q _ cells' H' (List.getElem_mem hj) hl' hT' k'⟩
def z1U (K:ky):Sp:=fun vs H Q _=>∃(a:Addr) (ns:List Int),vs=[.ref a]∧Scr K H a (ns.map V.int)∧ns.length≤1000∧∀t H',Same H H'→H t=none→H' t=some (.lst (je 0 ns))→Q (.ref t) H'
theorem z85:zj ["_law_script"] ["_law_script"] (zd (top 106)):=fsM
theorem z5L (D:zm K mg "_law_town" (top 106)) (G:Glo mg):FN P w K mg base 1 "_law_town" ["_law_script"] (z1U K):=by
 refine FN.o D z85 fun f cdv A outer s H vs Q E hr h=>?_
 obtain ⟨a,ns,rfl,hS,hn,q⟩:=h
 refine ⟨_,zf (zk (zY z0R (qe (z6 zh z8)) (jg jE rfl G.list Z5 (z6 (pv 0) z8)))),?_⟩
 refine ⟨by show 1≤sizeLine;decide,fun p hp=>?_⟩
 have sp:=zg hp (.lst [.int 0])
 refine ⟨_,rfl,a,ns.map V.int,rfl,.inl (hS.keep fun o u e=>sp _ _ e).sq,fun l hl=>?_⟩
 have sl:=zg hl (.lst (ns.map V.int))
 have npl:p≠l:=zc (H:=upd H p (.lst [.int 0])) z7 hl
 refine ⟨p,l,[.int 0],ns.map V.int,rfl,rfl,sl _ _ z7,z7,?_,fun t ht=>?_⟩
 ·rw [kj,sizeLine_eq]
  show 1+ns.length≤_
  lia
 ·have st:=zg ht (.lst ([.int 0]++ns.map V.int))
  refine q t _ ((sp.trans sl).trans st) ?_ z7
  cases e:H t with
  | none=>rfl
  | some o=>rw [(sp.trans sl) _ _ e] at ht;cases ht
end
end My
set_option maxHeartbeats 4000000
namespace L2
open PySem PySem.Spec PyProof.Rows
section
variable {prog:Program} {w:World} {A:Around} {E:Value→Shared→Prop}
theorem z2P {s:Shared} {l:Addr} {its:Array Value} {n:Nat} {sl:Array (Option Value)} {x:Str} {u:Tok} {Q:Value→Shared→Prop} (hl:s.heap.get? l=some { cls:=.type "list",dict:=none,data:=.seq its n,slots:=sl }) (h0:typeLookup (.type "list") x=pure none)
  (h1:(["__module__","__name__","__qualname__","__doc__","__annotations__"]:List Str).contains x=false) (hA:A.handled=none) (hz:x.length+100≤sizeLine) (h:∀h' tk e,Heap.NewAttrErr s.heap h' e (.ref l) x→E (.ref e) { s with heap:=h',toks:=tk }):
  wpAny (model prog w) A (call (.builtin "list.__getattribute__") [.ref l,.str x u]) Q E s:=
 call_meets F.slot_list_getattribute ⟨_,hl,rfl⟩ am_entry_list_getattribute (F.args_list_getattribute_2 _ _) (meets_getattribute_miss_list l its n sl x u h0 h1 hz) ⟨hl,hA,h⟩
theorem z6o {s:Shared} {l:Addr} {o:Obj} {its:Array Value} {n:Nat} {x:Str} {u:Tok} {Q:Value→Shared→Prop} (hl:s.heap.get? l=some o) (hc:o.cls=.type "list") (hq:o.data=.seq its n) (hd:o.dict=none)
  (h0:typeLookup (.type "list") x=pure none) (h1:(["__module__","__name__","__qualname__","__doc__","__annotations__"]:List Str).contains x=false) (hA:A.handled=none) (hz:x.length+100≤sizeLine)
  (h:∀h' tk e,Heap.NewExcOf s.heap h' e "AttributeError"→E (.ref e) { s with heap:=h',toks:=tk }):wpAny (model prog w) A (getAttrBy (.ref l) (.str x u) false) Q E s:=by
 cases o with
 | mk c dct dat sl=>
 cases hc
 cases hq
 cases hd
 cases s with
 | mk hp g dr tk os=>
 have ty:∀k,(⟨hp,g,dr,k,os⟩:Shared).TypeIs (.ref l) "list":=fun _=>⟨_,hl,rfl⟩
 have a1:=F.slot_list_getattribute.lookup
 have a2:=F.slot_list_getattribute.bind (.ref l)
 have a3:=am_list_getattr_none
 have a4:=sub_AttributeError
 unfold getAttrBy
 repeat (any_goals (first | exact ty _ | assumption | ((with_reducible show wpAny _ _ (call (.builtin _) _ _) _ _ _);refine z2P hl h0 h1 hA hz fun h' tk' e ne=>?_) | wp_step))
 obtain ⟨t1,t2,there⟩:=ne.there
 repeat (any_goals (first | wp_step | assumption))
 exact h _ _ _ ne.of
theorem z0o:typeLookup (.type "list") "keys"=pure none:=am_miss_of_fast (by trivial)
theorem z2F {s:Shared} {a:Addr} {o:Obj} {xs:Array Value} {k:Nat} {Q:Option Value→Shared→Prop} (hx:s.heap.get? a=some o) (hc:o.cls=.type "list") (hdat:o.data=.seq xs k) (hd:o.dict=none) (hA:A.handled=none)
  (h:∀h' tk,(∀b o,s.heap.get? b=some o→h'.get? b=some o)→Q none { s with heap:=h',toks:=tk }):wpAny (model prog w) A (getAttr? (.ref a) "keys") Q E s:=by
 unfold getAttr? getAttrBy?
 refine wpAny_bind (wpAny_mkText ?_)
 refine wpAny_bind (wpAny_attempt (z6o (s:={ s with toks:=s.toks+1 }) hx hc hdat hd z0o (by trivial) hA (by decide) fun h' tk e ne=>?_))
 obtain ⟨oe,vs,he,hcl,_⟩:=ne.there
 show wpAny _ _ (isInstance (.ref e) (.type "AttributeError") >>= _) _ _ _
 refine wpAny_bind (wpAny_isInstance (T:="AttributeError") (b:=true) ⟨_,he,hcl⟩ sub_AttributeError ?_)
 exact wpAny_pure (h h' tk ne.keeps)
end
end L2
namespace L2
open PySem PySem.Spec PyProof.Rows
theorem JQ:entryFor table "dict.update.loop"=some Builtin.«dict.update.loop»:=entryFor_of_tree (by kernel_rfl)
theorem jW:plainId "dict.update.loop"=true:=by trivial
section
variable {prog:Program} {w:World} {A:Around} {E:Value→Shared→Prop}
theorem z04 {Kt:Type} [DecidableEq Kt] {knd:PySem.KeyKind prog w Kt} {l it d:Addr} {items:Array Value} (hA:A.handled=none) {Q:Shared→Prop}:
  ∀(n i:Nat) (acc kvs:List (Kt × Value)) (t:Tok) (s:Shared),n+i=items.size→s.heap.IsListIter it l i→s.heap.IsList l items→s.heap.DictOf knd d acc→it≠d→l≠d→it≠l→
   (∀j,i≤j→j < items.size→∃p its key v k,items[j]?=some (.ref p)∧s.heap.IsTuple p its∧its.toList=[key,v]∧p≠d∧p≠it∧knd.is k key=true∧kvs[j - i]?=some (k,v))→kvs.length=n→acc.length+n≤1000→
   (∀s',s'.heap.DictOf knd d (merged acc kvs)→s'.os=s.os→s'.gens=s.gens→(∀b o,b≠d→b≠it→s.heap.get? b=some o→s'.heap.get? b=some o)→Q s')→
   codeAny (model prog w) A (.builtin "dict.update.loop" ⟨[.ref d,.ref it,.int i t,.none],[]⟩) (wants (fun r s₂=>r=.none∧Q s₂) E) s:=by
 intro n
 induction n with
 | zero=>
  intro i acc kvs t s hn hit hl hd n1 n2 n3 hp hk hz q
  have hkv:kvs=[]:=List.length_eq_zero_iff.mp hk
  subst hkv
  refine codeAny_builtin JQ ?_
  rw [Around.under_plainId jW _]
  unfold Builtin.«dict.update.loop»
  refine wpAny_bind (wpAny_pyNext_list_end hA hit hl (by simp;lia) fun h' eb=>?_)
  show wpAny _ _ (Builtin.Dict.addKeywords d [] >>= fun _=>ret Value.none) _ _ _
  refine wpAny_bind (wpAny_pure ?_)
  obtain ⟨o,es,ep,ho,r⟩:=hd
  exact wpAny_pure ⟨rfl,q _ ⟨o,es,ep,eb d o (Ne.symm n1) ho,r⟩ rfl rfl fun b o' _ hb e=>eb b o' hb e⟩
 | succ n ih=>
  intro i acc kvs t s hn hit hl hd n1 n2 n3 hp hk hz q
  refine codeAny_builtin JQ ?_
  rw [Around.under_plainId jW _]
  unfold Builtin.«dict.update.loop»
  obtain ⟨p,its,key,v,k,e1,e2,e3,e4,e5,e6,e7⟩:=hp i (ke _) (by lia)
  obtain ⟨x,kvs',hkv⟩:∃x kvs',kvs=x :: kvs':=by
   cases kvs with
   | nil=>cases hk
   | cons x kvs'=>exact ⟨x,kvs',rfl⟩
  subst hkv
  have ex:x=(k,v):=by
   rw [Nat.sub_self] at e7
   exact kB e7
  subst ex
  refine wpAny_bind (wpAny_pyNext_list_item hit hl e1 fun h' hit' sb=>?_)
  refine wpAny_bind (wpAny_holding ?_)
  refine wpAny_bind (wpAny_tryCatch ?_)
  obtain ⟨ot,ho,hc,m,hdt⟩:=id e2
  have ho':h'.get? p=some ot:=(sb.2 p e5).trans ho
  unfold Builtin.Dict.pairItems
  refine wpAny_bind (wpAny_typeOf (T:="tuple") ⟨ot,ho',hc⟩ ?_)
  rw [kA (by decide)]
  refine wpAny_bind (wpAny_seqItems ho' hdt ?_)
  refine wpAny_pure ?_
  show wpAny _ _ (match its.toList with | [k,v]=>holding [k,v] (dictSet d k v) | _=>_) _ _ _
  rw [e3]
  have hd':h'.DictOf knd d acc:=by
   obtain ⟨o,es,ep,ho,r⟩:=hd
   exact ⟨o,es,ep,(sb.2 d (Ne.symm n1)).trans ho,r⟩
  refine wpAny_holding (wpAny_dictSet_pairs (hsz:=by rw [sizeLine_eq];lia) e6 hd' fun h2 dd2 sb2=>?_)
  refine wpAny_pure ⟨plainId_quiet jW _,?_⟩
  have hl2:h2.IsList l items:=by
   obtain ⟨o,g1,g2⟩:=hl
   exact ⟨o,(sb2.2 l n2).trans ((sb.2 l (Ne.symm n3)).trans g1),g2⟩
  have hit2:h2.IsListIter it l (i+1):=by
   obtain ⟨o,g1,g2⟩:=hit'
   exact ⟨o,(sb2.2 it n1).trans g1,g2⟩
  refine ih (i+1) (stored acc k v) kvs' 0 { s with heap:=h2,toks:=s.toks+1 } (by lia) hit2 hl2 dd2 n1 n2 n3 (fun j h1 h2'=>?_) (by simpa using hk) ?_ fun s' dd' o1 o2 keep=>?_
  ·obtain ⟨p',its',key',v',k',f1,f2,f3,f4,f5,f6,f7⟩:=hp j (by lia) h2'
   obtain ⟨o',g1,g2⟩:=f2
   refine ⟨p',its',key',v',k',f1,⟨o',(sb2.2 p' f4).trans ((sb.2 p' f5).trans g1),g2⟩,f3,f4,f5,f6,?_⟩
   rw [show j - i=(j - (i+1))+1 by lia] at f7
   exact f7
  ·have:=stored_length_le acc k v
   lia
  ·exact q s' dd' o1 o2 fun b o hb hb2 e=>keep b o hb hb2 ((sb2.2 b hb).trans ((sb.2 b hb2).trans e))
theorem Q8 {Kt:Type} [DecidableEq Kt] {knd:PySem.KeyKind prog w Kt} {l:Addr} {items:Array Value} {kvs:List (Kt × Value)} {s:Shared} {Q:Value→Shared→Prop} (hA:A.handled=none) {o:Obj} {m:Nat} (ho:s.heap.get? l=some o) (hc:o.cls=.type "list") (hdat:o.data=.seq items m) (hdd:o.dict=none)
  (hz:items.size≤900) (hk:kvs.length=items.size) (hp:∀j:Nat,j < items.size→∃p its key v k,items[j]?=some (.ref p)∧s.heap.IsTuple p its∧its.toList=[key,v]∧knd.is k key=true∧kvs[j]?=some (k,v))
  (h:∀s',s'.heap.DictOf knd s.heap.objs.size (merged [] kvs)→s'.os=s.os→s'.gens=s.gens→(∀b o,s.heap.get? b=some o→s'.heap.get? b=some o)→Q (.ref s.heap.objs.size) s'):
  wpAny (model prog w) A (call (.type "dict") [.ref l]) Q E s:=by
 refine callType_codes (Q₁:=fun obj s₁=>obj=.ref s.heap.objs.size∧s₁={ s with heap:=s.heap.push { cls:=.type "dict",data:=.dict #[] } }) F.kt_called_dict (F.kt_typeCall_dict_1 _) F.entry_dict_init (kt_code_dict_new _ ⟨rfl,rfl⟩) ?_
 rintro obj s₁ ⟨rfl,rfl⟩
 have hnew:(s.heap.push { cls:=.type "dict",data:=.dict #[] }).DictOf knd s.heap.objs.size []:=Heap.DictOf.new s.heap
 refine ⟨hnew.typeIs,F.args_dict_init_2 _ _,?_⟩
 unfold Builtin.«dict.__init__»
 refine wpAny_bind ?_
 unfold Builtin.Dict.selfAndRest
 refine wpAny_bind (wpAny_notOrdered_dict hnew.typeIs ?_)
 show wpAny _ _ (pure (s.heap.objs.size,[Value.ref l])) _ _ _
 refine wpAny_pure ?_
 show wpAny _ _ (Builtin.Dict.updateFrom "dict.__init__" s.heap.objs.size (.ref l) [] .none) _ _ _
 unfold Builtin.Dict.updateFrom
 have push:∀b o,s.heap.get? b=some o→(s.heap.push { cls:=.type "dict",data:=.dict #[] }).get? b=some o:=fun b o e=>Heap.get?_push_of_some _ e
 refine wpAny_bind (wpAny_typeOf (T:="list") ⟨o,push _ _ ho,hc⟩ ?_)
 rw [kA (by decide)]
 refine wpAny_bind (z2F (push _ _ ho) hc hdat hdd hA fun h' tk keep=>?_)
 rw [kA (show (none:Option Value).isNone=true from rfl)]
 refine wpAny_bind (wpAny_rule ?_)
 have ho':h'.get? l=some o:=keep _ _ (push _ _ ho)
 have hl':h'.IsList l items:=⟨o,ho',hc,m,hdat⟩
 refine wpAny_bind (wpAny_pyIter_list hl' ?_)
 refine wpAny_pure ⟨plainId_quiet jW _,?_⟩
 have p2:∀b o,h'.get? b=some o→(h'.push { cls:=.type "list_iterator",data:=.fields #[.ref l,.int 0 0] }).get? b=some o:=fun b o e=>Heap.get?_push_of_some _ e
 have dOld:∀b o,s.heap.get? b=some o→b≠s.heap.objs.size:=fun b o e=>Nat.ne_of_lt (Heap.lt_size e)
 have iOld:∀b o,h'.get? b=some o→b≠h'.objs.size:=fun b o e=>Nat.ne_of_lt (Heap.lt_size e)
 have hd':(h'.push { cls:=.type "list_iterator",data:=.fields #[.ref l,.int 0 0] }).DictOf knd s.heap.objs.size []:=by
  obtain ⟨o,es,ep,g1,r⟩:=hnew
  exact ⟨o,es,ep,p2 _ _ (keep _ _ g1),r⟩
 have nit:h'.objs.size≠s.heap.objs.size:=by
  obtain ⟨o,es,ep,g1,r⟩:=hnew
  exact (iOld _ _ (keep _ _ g1)).symm
 refine z04 (knd:=knd) (l:=l) (it:=h'.objs.size) (d:=s.heap.objs.size) (items:=items) (A:=A.in1) hA items.size 0 [] kvs 0 { s with heap:=h'.push { cls:=.type "list_iterator",data:=.fields #[.ref l,.int 0 0] },toks:=tk } (by lia) ⟨_,Heap.get?_push_size _ rfl,rfl,rfl⟩ ⟨o,p2 _ _ ho',hc,m,hdat⟩ hd' nit (dOld _ _ ho) (iOld _ _ ho').symm (fun j _ hj=>?_) hk (by simp;lia) fun s' dd o1 o2 kp=>?_
 ·obtain ⟨p,its,key,v,k,e1,⟨ot,g1,g2⟩,e3,e6,e7⟩:=hp j hj
  exact ⟨p,its,key,v,k,e1,⟨ot,p2 _ _ (keep _ _ (push _ _ g1)),g2⟩,e3,dOld _ _ g1,iOld _ _ (keep _ _ (push _ _ g1)),e6,e7⟩
 ·exact h s' dd o1 o2 fun b o e=>kp b o (dOld _ _ e) (iOld _ _ (keep _ _ (push _ _ e))) (p2 _ _ (keep _ _ (push _ _ e)))
end
section
variable {X:Cx}
abbrev Z6 (H:Hp):List Addr→List (Key × V)→Prop:=Paired fun a p=>H a=some (.tup [kV p.1,p.2])
theorem z0M {P:Program} {w:World} {H:Hp} {h:Heap} (ok:HOk P w H h):∀{as:List Addr} {kvs:List (Key × V)},Z6 H as kvs→∃rs,KV kvs rs∧∀(j:Nat) p,as[j]?=some p→∃its key u k,h.IsTuple p its∧its.toList=[key,u]∧(zK P w).is k key=true∧rs[j]?=some (k,u)
 | _,_,.nil=>⟨[],.nil,fun j p e=>by simp at e⟩
 | _,_,@Paired.cons _ _ _ a q as kvs hq t=>by
  obtain ⟨rs,h1,h2⟩:=z0M ok t
  obtain ⟨_,its,rv,ob,g1,g2,n,g3⟩:=(show zZ P w H h a (.tup [kV q.1,q.2]) from ok a _ hq)
  cases rv with
  | @cons _ key _ _ rk rv=>
   cases rv with
   | @cons _ u _ _ ru rv=>
    cases rv
    have hk:JD q.1 key=true:=by
     obtain ⟨k,v⟩:=q
     cases k with
     | inl i=>obtain ⟨t,rfl⟩:=rk;exact JC i t
     | inr z=>obtain ⟨t,rfl⟩:=rk;exact JA z t
    refine ⟨(q.1,u) :: rs,.cons ⟨rfl,ru⟩ h1,fun j p e=>?_⟩
    cases j with
    | zero=>
     simp at e
     subst e
     exact ⟨_,key,u,q.1,⟨ob,g1,g2,n,g3⟩,rfl,hk,rfl⟩
    | succ j=>exact h2 j p (by simpa using e)
theorem z1E (hc:X.calm=true):jt X (.type "dict") (fun xs H Q=>∃l as kvs,xs=[V.ref l]∧H l=some (.lst (as.map V.ref))∧Z6 H as kvs∧kvs.length≤900∧∀p,H p=none→Q (.ref p) (upd H p (.dK (qz [] kvs)))):=by
 intro pins s σ H xs us Q I r h
 obtain ⟨l,as,kvs,rfl,hl,hp,hz,q⟩:=h
 obtain ⟨u,rfl,ru⟩:=ZO r
 cases ru
 obtain ⟨rs,rel,hrs⟩:=z0M I.hok hp
 obtain ⟨_,its,n,rv,ho⟩:=(show zZ X.prog X.w H s.heap l (.lst (as.map V.ref)) from I.hok l _ hl)
 have hits:its=as.map Value.ref:=z1L rv
 subst hits
 have hlen:as.length=kvs.length:=Paired.length hp
 have hlr:kvs.length=rs.length:=rel.length
 have hn:=I.hok.fresh (ke s.heap.objs.size)
 refine Q8 (knd:=zK X.prog X.w) (kvs:=rs) (I.ok.hd hc) ho rfl rfl rfl (by simp;lia) (by simp;lia) (fun j hj=>?_) fun s' dd o1 o2 keep=>?_
 ·have hj:j < as.length:=by simpa using hj
  obtain ⟨its,key,u,k,f1,f2,f3,f4⟩:=hrs j as[j] (kK hj)
  exact ⟨as[j],its,key,u,k,by simp [hj],f1,f2,f3,f4⟩
 ·have hz2:(qz [] kvs).length≤sizeLine:=by
   have h1:=jl kvs []
   rw [List.length_nil] at h1
   rw [sizeLine_eq];lia
  have hd:(s.heap.objs.size == sysModules)=false:=(ZM (P:=X.prog) (w:=X.w) (H:=H) s.heap I.big).2.1
  have I':=I.laid (a:=s.heap.objs.size) (o:=.dK (qz [] kvs)) (h':=s'.heap) (t':=s'.toks) keep (ke _) (Qy hz2 hd (rel.merge .nil) dd)
  exact ⟨.ref s.heap.objs.size,_,⟨I'.ok,o1.trans I'.os,by rw [o2];exact I'.bare,I'.base,I'.loc,I'.cell,I'.free,I'.freeC,I'.pin,I'.hok,I'.len⟩,rfl,q _ hn⟩
end
end L2
namespace L2
open PySem PySem.Spec PyProof.Rows
inductive TwE (K:ky) (H:Hp):V→V→Prop
 | ref {a b:Addr} {w:Str} {i:Int} (h1:SqT K H a [.str w,.int i]) (h2:SqT K H b [.str w,.int i]):TwE K H (.ref a) (.ref b)
 | fnd {a b ea eb:Addr} {w v:Str} (h1:SqT K H a [.str w,.ref ea]) (h2:SqT K H b [.str w,.ref eb]) (h3:SqT K H ea [.str v]) (h4:SqT K H eb [.str v]):TwE K H (.ref a) (.ref b)
section
variable {X:Cx}
theorem z0B {pins:List (Addr × Obj)} {σ:St} {H:Hp} {s:Shared} {x y:V} {u v:Value} (I:Inv X pins σ H s) (hu:X.A.units+3 < cLine) (rx:RelV x u) (ry:RelV y v) (h:TwE X.K H x y):
  ∃a b p1 p2 q1 q2,u=.ref a∧v=.ref b∧s.heap.IsTuple a #[p1,p2]∧s.heap.IsTuple b #[q1,q2]∧SeqAt.EqAt X.A.in1 s p1 q1 true∧SeqAt.EqAt X.A.in1 s p2 q2 true:=by
 have st:∀(w:Str) (t t':Tok),SeqAt.EqAt X.A.in1 s (.str w t) (.str w t') true:=fun w t t'=>by
  have:=SeqAt.EqAt.str_str (A:=X.A.in1) (s:=s) w t w t'
  rw [yb] at this
  exact this
 cases h with
 | @ref a b w i h1 h2=>
  cases rx
  cases ry
  obtain ⟨its,r,pl,_⟩:=I.tuple h1
  obtain ⟨its2,r2,pl2,_⟩:=I.tuple h2
  obtain ⟨t1,t2,rfl⟩:∃t1 t2,its=[.str w t1,.int i t2]:=by
   cases r with
   | cons a b=>cases b with
    | cons c d=>cases d;obtain ⟨t,rfl⟩:=a;obtain ⟨t',rfl⟩:=c;exact ⟨t,t',rfl⟩
  obtain ⟨u1,u2,rfl⟩:∃t1 t2,its2=[.str w t1,.int i t2]:=by
   cases r2 with
   | cons a b=>cases b with
    | cons c d=>cases d;obtain ⟨t,rfl⟩:=a;obtain ⟨t',rfl⟩:=c;exact ⟨t,t',rfl⟩
  refine ⟨a,b,_,_,_,_,rfl,rfl,pl,pl2,st w t1 u1,?_⟩
  have:=SeqAt.EqAt.int_int (A:=X.A.in1) (s:=s) i t2 i u2
  rw [yb] at this
  exact this
 | @fnd a b ea eb w v' h1 h2 h3 h4=>
  cases rx
  cases ry
  obtain ⟨its,r,pl,_⟩:=I.tuple h1
  obtain ⟨its2,r2,pl2,_⟩:=I.tuple h2
  obtain ⟨i1,i2,a',b',c,d⟩:=cmpW I h3 h4
  have hd:((List.range (min i1.size i2.size)).all (fun _=>v' == v')&&i1.size == i2.size)=true:=by
   rw [d]
   simp
  have E1:SeqAt.EqAt X.A.in1 s (.ref ea) (.ref eb) true:=by
   by_cases hne:ea=eb
   ·rw [hne];exact SeqAt.EqAt.same _
   ·refine SeqAt.EqAt.of_refs hne ?_
    have T:=SeqAt.RcAt.tuples (A:=X.A.in1) (s:=s) (e:=fun _=>v' == v') a' b' (show X.A.units+1 < cLine by lia) (c _)
    rw [hd] at T
    exact T
  obtain ⟨t1,rfl⟩:∃t1,its=[.str w t1,.ref ea]:=by
   cases r with
   | cons a b=>cases b with
    | cons c d=>cases d;obtain ⟨t,rfl⟩:=a;cases c;exact ⟨t,rfl⟩
  obtain ⟨u1,rfl⟩:∃t1,its2=[.str w t1,.ref eb]:=by
   cases r2 with
   | cons a b=>cases b with
    | cons c d=>cases d;obtain ⟨t,rfl⟩:=a;cases c;exact ⟨t,rfl⟩
  exact ⟨a,b,_,_,_,_,rfl,rfl,pl,pl2,st w t1 u1,E1⟩
theorem z5x (hu:X.A.units+3 < cLine):OpR X (compareOp .Eq) (fun x y H Q=>TwE X.K H x y∧Q (.bl true) H):=by
 intro pins s σ H x y v u Q I rx ry h
 obtain ⟨a,b,p1,p2,q1,q2,rfl,rfl,g1,g2,g3,g4⟩:=z0B I hu rx ry h.1
 refine SeqAt.eq_tupleAt (e:=fun _=>true) g1 g2 (by lia) (fun j h1 h2=>?_) ⟨.bl _,H,I,rfl,h.2⟩
 have h1:j < 2:=by simpa using h1
 match j,h1 with
 | 0,_=>exact g3
 | 1,_=>exact g4
theorem z0h (hu:X.A.units+3 < cLine):OpR X (compareOp .NotEq) (fun x y H Q=>TwE X.K H x y∧Q (.bl false) H):=by
 intro pins s σ H x y v u Q I rx ry h
 obtain ⟨a,b,p1,p2,q1,q2,rfl,rfl,g1,g2,g3,g4⟩:=z0B I hu rx ry h.1
 refine SeqAt.RcNeAt.tuples (e:=fun _=>true) g1 g2 (by lia) (fun j h1 h2=>?_) X.prog X.w X.xe _ ⟨.bl _,H,I,rfl,h.2⟩
 have h1:j < 2:=by simpa using h1
 match j,h1 with
 | 0,_=>exact g3
 | 1,_=>exact g4
end
end L2
set_option maxHeartbeats 8000000
namespace My
open PySem PySem.Spec PyProof.Rows L2
variable {P:Program} {w:World} {K:ky} {mg:Str→Option Value} {base:Heap}
theorem PA.imp {X:Cx} {es:List Expr} {t t':TA} (h:PA X es t) (hi:∀σ H Q,t' σ H Q→t σ H Q):PA X es t':=fun pos pins s σ H Q I q=>h pos pins s σ H Q I (hi σ H Q q)
def tRow (p:L2.St→Row→Prop):TE:=fun σ H Q=>∃r,p σ r∧∀a H',Same H H'→H' a=some (.tup (tupV r))→Q (.ref a) H'
abbrev Rc (r:Row):L2.St→Row→Prop:=fun _ r'=>r'=r
def z3y (ps:List (L2.St→Row→Prop)):TA:=fun σ H Q=>∃rs,Paired (fun p r=>p σ r) ps rs∧∀as H',Same H H'→zL H' as rs→Q (as.map V.ref) H'
def z3z (ps:List (L2.St→Row→Prop)):TE:=fun σ H Q=>∃rs,Paired (fun p r=>p σ r) ps rs∧rs.length≤1000∧∀l as H',Same H H'→H l=none→H' l=some (.lst (as.map V.ref))→zL H' as rs→Q (.ref l) H'
section
variable {X:Cx}
theorem z2e {op:Str} {i l:Int} {j1 j2 j3 p1 p2 p3 c pos}:PE X (.Tuple [.Constant (.str op) j1 p1,.Constant (.int i) j2 p2,.Constant (.int l) j3 p3] c pos) (tRow (Rc ⟨op,.int i,l⟩)):=
 PE.imp (zB (z6 zo (z6 zh (z6 zh z8)))) fun σ H Q ⟨r,hr,q⟩=>by subst hr;exact ⟨by show 3≤sizeLine;decide,fun a ha=>q a _ (zg ha _) z7⟩
theorem z2d {op:Str} {l:Int} {j1 j2 j3 p1 p2 p3 c pos}:PE X (.Tuple [.Constant (.str op) j1 p1,.Constant .none j2 p2,.Constant (.int l) j3 p3] c pos) (tRow (Rc ⟨op,.non,l⟩)):=
 PE.imp (zB (z6 zo (z6 zF (z6 zh z8)))) fun σ H Q ⟨r,hr,q⟩=>by subst hr;exact ⟨by show 3≤sizeLine;decide,fun a ha=>q a _ (zg ha _) z7⟩
theorem ZI:PA X [] (z3y []):=PA.imp z8 fun σ H Q ⟨rs,h,q⟩=>by cases h;exact q [] H (Same.refl _) .nil
theorem jf {xs:List Expr} {c:Nat} {q:Pos} {es:List Expr} {p:L2.St→Row→Prop} {ps:List (L2.St→Row→Prop)} (h1:PE X (.Tuple xs c q) (tRow p)) (h2:PA X es (z3y ps)):PA X (.Tuple xs c q :: es) (z3y (p :: ps)):=
 PA.imp (z6 h1 h2 rfl) fun σ H Q ⟨rs,h,q⟩=>by
  cases h with
  | cons a b=>
   refine ⟨_,a,fun x H1 s1 hx=>⟨_,b,fun as H2 s2 hr=>?_⟩⟩
   exact q (x :: as) H2 (s1.trans s2) (.cons (s2 _ _ hx) hr)
theorem QJ {es:List Expr} {ps:List (L2.St→Row→Prop)} {pos:Pos} (h:PA X es (z3y ps)):PE X (.List es pos) (z3z ps):=
 PE.imp (qe h) fun σ H Q ⟨rs,h1,hn,q⟩=>⟨rs,h1,fun as H1 s1 hr=>⟨by rw [kj,hr.len];exact Jf hn,fun l hl=>q l as _ (s1.trans (zg hl _)) (s1.free hl) z7 (hr.same (zg hl _))⟩⟩
end
noncomputable def wo (H:Hp) (t:Addr):Hp:=fun b=>if b=t then none else H b
theorem ZN {H:Hp} {t b:Addr} {o:HO} (e:H b=some o) (n:b≠t):wo H t b=some o:=by
 unfold wo
 rw [kz n]
 exact e
theorem z17 {H:Hp} {t b:Addr} {o:HO} (e:wo H t b=some o):b≠t∧H b=some o:=by
 unfold wo at e
 by_cases z:b=t
 ·rw [kA z] at e;cases e
 ·rw [kz z] at e;exact ⟨z,e⟩
theorem Zz {H:Hp} {t:Addr}:Same (wo H t) H:=fun b o e=>(z17 e).2
theorem zG {H H':Hp} {t:Addr} (s:Same H H'):Same (wo H t) (wo H' t):=fun b o e=>ZN (s _ _ (z17 e).2) (z17 e).1
theorem z1K {H H':Hp} {t:Addr} (k:jM H H' t):Same (wo H t) (wo H' t):=fun b o e=>ZN (k _ _ (z17 e).2 (z17 e).1) (z17 e).1
structure LwS (K:ky) (H:Hp) (a t:Addr) (ns:List Int) (n:Nat):Prop where
 scr:Scr K H a (ns.map V.int)
 len:ns.length≤63
 tow:∃c cells,cells.length=ns.length∧c≤n∧H t=some (.lst (je c cells))
theorem LwS.same {K:ky} {H H':Hp} {a t:Addr} {ns:List Int} {n:Nat} (L:LwS K H a t ns n) (s:Same H H'):LwS K H' a t ns n:=by
 obtain ⟨h1,h2,c,cells,e1,e2,e3⟩:=L
 exact ⟨h1.keep fun o u e=>s _ _ e,h2,c,cells,e1,e2,s _ _ e3⟩
theorem LwS.ne {K:ky} {H:Hp} {a t b:Addr} {ns:List Int} {n:Nat} (L:LwS K H a t ns n) (h:H b=none):b≠t:=by
 obtain ⟨_,_,c,cells,e1,e2,e3⟩:=L
 exact (zc e3 h).symm
theorem LwS.tup {K:ky} {H:Hp} {a t b:Addr} {ns:List Int} {n:Nat} {xs:List V} (L:LwS K H a t ns n) (h:H b=some (.tup xs)):wo H t b=some (.tup xs):=by
 obtain ⟨_,_,c,cells,e1,e2,e3⟩:=L
 exact ZN h (zD h e3 nofun)
theorem LwS.dict {K:ky} {H:Hp} {a t b:Addr} {ns:List Int} {n:Nat} {kvs:List (Key × V)} (L:LwS K H a t ns n) (h:H b=some (.dK kvs)):wo H t b=some (.dK kvs):=by
 obtain ⟨_,_,c,cells,e1,e2,e3⟩:=L
 exact ZN h (zD h e3 nofun)
theorem Ze {K:ky} {H:Hp} {a t p:Addr} {ns:List Int} {n:Nat} {xs:List V} {Q:VK} {E:XK} (L:LwS K H a t ns n) (hn:n≤50) (hp:H p=some (.lst xs)) (hpt:p≠t) (h1:1≤xs.length) (h2:xs.length≤1000)
  (q:∀v H',v∈xs→LwS K H' a t ns (n+1)→Same (wo H t) (wo H' t)→Q v H'):jU K [.ref a,.ref t,.ref p] H Q E:=by
 obtain ⟨c,cells,e1,e2,e3⟩:=L.tow
 exact ⟨a,t,p,ns,c,cells,xs,rfl,L.scr,by have:=L.len;lia,e1,e3,by lia,hp,hpt,h1,h2,fun v cells' H' hv hl' hT' k'=>q v H' hv ⟨L.scr.keep1 k' e3,L.len,c+1,cells',hl',by lia,hT'⟩ (z1K k')⟩
theorem z6h {K:ky} {H:Hp} {a t:Addr} {ns:List Int} {n:Nat} {many:Int} {Q:VK} {E:XK} (L:LwS K H a t ns n) (hn:n≤50) (h1:1≤many) (h2:many≤1000)
  (q:∀i H',0≤i→i < many→LwS K H' a t ns (n+1)→Same (wo H t) (wo H' t)→Q (.int i) H'):Jc K [.ref a,.ref t,.int many] H Q E:=by
 obtain ⟨c,cells,e1,e2,e3⟩:=L.tow
 exact ⟨a,t,ns,c,cells,many,rfl,L.scr,by have:=L.len;lia,e1,e3,by lia,h1,h2,fun i cells' H' i0 i1 hl' hT' k'=>q i H' i0 i1 ⟨L.scr.keep1 k' e3,L.len,c+1,cells',hl',by lia,hT'⟩ (z1K k')⟩
theorem jT.same {H H':Hp} {l:Addr} (h:jT H l) (s:Same H H'):jT H' l:=by
 obtain ⟨as,h1,h2⟩:=h
 exact ⟨as,s _ _ h1,h2.same s⟩
theorem Bad0.same {H H':Hp} {l:Addr} (h:Bad0 H l) (s:Same H H'):Bad0 H' l:=by
 obtain ⟨as,rs,h1,h2,h3⟩:=h
 exact ⟨as,rs,s _ _ h1,h2.same s,h3⟩
def HT (A B:L2.St→Hp→Prop):TS:=fun D σ H=>A σ H∧∀σ' H',B σ' H'→D.nx σ' H'
noncomputable def N116:List Str:=["_law_script","_law_town_here","_law_code","_law_bad","_law_odd","_law_value","_law_names","_law_things","_law_steps","_law_way","_law_told_here","_law_good"]
theorem jN:zj N116 ["_law_script"] (zd (top 116)):=fsM
noncomputable def lq (i:Nat):Stmt:=(zE (top 116)).getD i (.Pass ⟨0,0,0,0⟩)
noncomputable abbrev XL (P:Program) (w:World) (K:ky) (mg:Str→Option Value) (base:Heap) (f:Addr) (cdv:Value) (A:Around) (outer:List Env) (s:Shared) (H0:Hp) (E:XK):Cx:=(cxOf CX0 P w K mg base N116 "law" (zd (top 116)) f cdv A outer s H0 E).nox
section
variable {f:Addr} {cdv:Value} {A:Around} {outer:List Env} {s:Shared} {H0:Hp} {E:XK} {a:Addr} {ns:List Int}
def I0 (K:ky) (a:Addr) (ns:List Int):L2.St→Hp→Prop:=fun σ H=>σ=[some (.ref a),none,none,none,none,none,none,none,none,none,none,none]∧Scr K H a (ns.map V.int)∧ns.length≤63
def I1 (K:ky) (a:Addr) (ns:List Int):L2.St→Hp→Prop:=fun σ H=>∃t,σ=[some (.ref a),some (.ref t),none,none,none,none,none,none,none,none,none,none]∧LwS K H a t ns 0
def I2 (K:ky) (a:Addr) (ns:List Int):L2.St→Hp→Prop:=fun σ H=>∃t l,σ=[some (.ref a),some (.ref t),some (.ref l),none,none,none,none,none,none,none,none,none]∧LwS K H a t ns 0∧jT (wo H t) l
def I3 (K:ky) (a:Addr) (ns:List Int):L2.St→Hp→Prop:=fun σ H=>∃t l b,σ=[some (.ref a),some (.ref t),some (.ref l),some (.ref b),none,none,none,none,none,none,none,none]∧LwS K H a t ns 1∧jT (wo H t) l∧Bad0 (wo H t) b
theorem ls0 (hr:Room 3 (XL P w K mg base f cdv A outer s H0 E).A) (FT:FN P w K mg base 1 "_law_town" ["_law_script"] (z1U K)):PS (XL P w K mg base f cdv A outer s H0 E) (lq 0) (HT (I0 K a ns) (I1 K a ns)):=by
 refine PS.imp (zx (i:=1) jN.nd rfl (Or.inl rfl) (zu FT (hr.mono (by decide)) rfl (z6 (pv 0) z8))) ?_
 rintro D σ H ⟨⟨rfl,hS,hns⟩,q⟩
 refine ⟨_,rfl,a,ns,rfl,hS,by lia,fun t H1 s1 ht hT1=>?_⟩
 exact q _ _ ⟨t,rfl,hS.keep fun o u e=>s1 _ _ e,hns,0,ns,rfl,ke _,hT1⟩
theorem z3I {H:Hp} {t:Addr} {as:List Addr} {rs:List Row} {n:Nat} (L:LwS K H a t ns n) (h:zL H as rs):zL (wo H t) as rs:=h.keep fun b xs e=>L.tup e
theorem ls1:PS (XL P w K mg base f cdv A outer s H0 E) (lq 1) (HT (I1 K a ns) (I2 K a ns)):=by
 refine PS.imp (t:=?_) ?_ ?_
 rotate_left
 ·refine' zx (i:=2) _ _ _ _
  rotate_left
  ·exact jN.nd
  ·rfl
  ·exact Or.inl rfl
  ·refine' QJ _
   rotate_left
   refine' jf _ _
   rotate_left 2
   ·exact z2e
   refine' jf _ _
   rotate_left 2
   ·exact z2d
   exact ZI
 rintro D σ H ⟨⟨t,rfl,L⟩,q⟩
 refine ⟨rs0,.cons rfl (.cons rfl .nil),by decide,fun l as H' s' hl0 hl hR=>?_⟩
 have L':=L.same s'
 exact q _ _ ⟨t,l,rfl,L',as,ZN hl (L.ne hl0),z3I L' hR⟩
theorem ls2 (hr:Room 3 (XL P w K mg base f cdv A outer s H0 E).A) (FP:FN P w K mg base 2 "_law_pick" ["_law_script","_law_town_here","_law_some"] (jU K)):PS (XL P w K mg base f cdv A outer s H0 E) (lq 2) (HT (I2 K a ns) (I3 K a ns)):=by
 refine PS.imp (t:=?_) ?_ ?_
 rotate_left
 ·refine' zx (i:=3) _ _ _ _
  rotate_left
  ·exact jN.nd
  ·rfl
  ·exact Or.inl rfl
  ·refine' zu FP _ _ _
   rotate_left
   ·exact hr.mono (by decide)
   ·rfl
   ·refine' z6 _ _
    rotate_left 2
    ·exact pv 0
    refine' z6 _ _
    rotate_left 2
    ·exact pv 1
    refine' z6 _ _
    rotate_left 2
    ·refine' qe _
     rotate_left
     ·refine' z6 _ _
      rotate_left 2
      ·refine' QJ _
       rotate_left
       refine' jf _ _
       rotate_left 2
       ·exact z2d
       exact ZI
      refine' z6 _ _
      rotate_left 2
      ·refine' QJ _
       rotate_left
       refine' jf _ _
       rotate_left 2
       ·exact z2e
       exact ZI
      refine' z6 _ _
      rotate_left 2
      ·refine' QJ _
       rotate_left
       refine' jf _ _
       rotate_left 2
       ·exact z2d
       refine' jf _ _
       rotate_left 2
       ·exact z2e
       exact ZI
      exact z8
    exact z8
 rintro D σ H ⟨⟨t,l,rfl,L,hG⟩,q⟩
 refine ⟨_,rfl,_,rfl,rb1,.cons rfl .nil,by decide,fun l1 as1 H1 s1 hn1 hl1 hR1=>?_⟩
 refine ⟨rb2,.cons rfl .nil,by decide,fun l2 as2 H2 s2 hn2 hl2 hR2=>?_⟩
 refine ⟨rb3,.cons rfl (.cons rfl .nil),by decide,fun l3 as3 H3 s3 hn3 hl3 hR3=>?_⟩
 refine ⟨by show 3≤sizeLine;decide,fun p hp=>?_⟩
 have s4:=zg hp (.lst [.ref l1,.ref l2,.ref l3])
 have L1:=L.same s1
 have L2:=L1.same s2
 have L3:=L2.same s3
 have L4:=L3.same s4
 have b1:Bad0 (wo H1 t) l1:=⟨as1,rb1,ZN hl1 (L.ne hn1),z3I L1 hR1,bad1⟩
 have b2:Bad0 (wo H2 t) l2:=⟨as2,rb2,ZN hl2 (L1.ne hn2),z3I L2 hR2,bad2⟩
 have b3:Bad0 (wo H3 t) l3:=⟨as3,rb3,ZN hl3 (L2.ne hn3),z3I L3 hR3,bad3⟩
 have bb:∀v∈([.ref l1,.ref l2,.ref l3]:List V),∃b,v=.ref b∧Bad0 (wo H3 t) b:=by
  intro v hv
  simp only [kD,kq,or_false] at hv
  rcases hv with rfl | rfl | rfl
  ·exact ⟨l1,rfl,(b1.same (zG s2)).same (zG s3)⟩
  ·exact ⟨l2,rfl,b2.same (zG s3)⟩
  ·exact ⟨l3,rfl,b3⟩
 refine Ze L4 (by decide) z7 (L3.ne hp) (by show 1≤3;decide) (by show 3≤1000;decide) fun v H5 hv L5 s5=>?_
 obtain ⟨b,rfl,hb⟩:=bb v hv
 exact q _ _ ⟨t,l,b,rfl,L5,(((((hG.same (zG s1)).same (zG s2)).same (zG s3)).same (zG s4)).same s5),(hb.same (zG s4)).same s5⟩
noncomputable def odds:List V:=[.str "a",.str "abcde",.str "",.str "A",.int 7,.non,.str "abcd",.str "a1"]
def I4 (K:ky) (a:Addr) (ns:List Int):L2.St→Hp→Prop:=fun σ H=>∃t l b od,σ=[some (.ref a),some (.ref t),some (.ref l),some (.ref b),some od,none,none,none,none,none,none,none]∧LwS K H a t ns 2∧jT (wo H t) l∧Bad0 (wo H t) b∧od∈odds
theorem ls3 (hr:Room 3 (XL P w K mg base f cdv A outer s H0 E).A) (FP:FN P w K mg base 2 "_law_pick" ["_law_script","_law_town_here","_law_some"] (jU K)):PS (XL P w K mg base f cdv A outer s H0 E) (lq 3) (HT (I3 K a ns) (I4 K a ns)):=by
 refine PS.imp (t:=?_) ?_ ?_
 rotate_left
 ·refine' zx (i:=4) _ _ _ _
  rotate_left
  ·exact jN.nd
  ·rfl
  ·exact Or.inl rfl
  ·refine' zu FP _ _ _
   rotate_left
   ·exact hr.mono (by decide)
   ·rfl
   ·refine' z6 _ _
    rotate_left 2
    ·exact pv 0
    refine' z6 _ _
    rotate_left 2
    ·exact pv 1
    refine' z6 _ _
    rotate_left 2
    ·refine' qe _
     rotate_left
     ·refine' z6 _ _
      rotate_left 2
      ·exact zo
      refine' z6 _ _
      rotate_left 2
      ·exact zo
      refine' z6 _ _
      rotate_left 2
      ·exact zo
      refine' z6 _ _
      rotate_left 2
      ·exact zo
      refine' z6 _ _
      rotate_left 2
      ·exact zh
      refine' z6 _ _
      rotate_left 2
      ·exact zF
      refine' z6 _ _
      rotate_left 2
      ·exact zo
      refine' z6 _ _
      rotate_left 2
      ·exact zo
      exact z8
    exact z8
 rintro D σ H ⟨⟨t,l,b,rfl,L,hG,hB⟩,q⟩
 refine ⟨_,rfl,_,rfl,by show 8≤sizeLine;decide,fun p hp=>?_⟩
 have s1:=zg hp (.lst odds)
 refine Ze (L.same s1) (by decide) z7 (L.ne hp) (by show 1≤8;decide) (by show 8≤1000;decide) fun v H2 hv L2 s2=>?_
 exact q _ _ ⟨t,l,b,v,rfl,L2,(hG.same (zG s1)).same s2,(hB.same (zG s1)).same s2,hv⟩
end
section
variable {f:Addr} {cdv:Value} {A:Around} {outer:List Env} {s:Shared} {H0:Hp} {E:XK} {a:Addr} {ns:List Int}
structure LB (K:ky) (H:Hp) (a t l b:Addr) (ns:List Int) (n:Nat):Prop where
 low:LwS K H a t ns n
 good:jT (wo H t) l
 bad:Bad0 (wo H t) b
theorem LB.same {H H':Hp} {t l b:Addr} {n:Nat} (L:LB K H a t l b ns n) (s:Same H H'):LB K H' a t l b ns n:=⟨L.low.same s,L.good.same (zG s),L.bad.same (zG s)⟩
theorem LB.on {H H':Hp} {t l b:Addr} {n m:Nat} (L:LB K H a t l b ns n) (L':LwS K H' a t ns m) (s:Same (wo H t) (wo H' t)):LB K H' a t l b ns m:=⟨L',L.good.same s,L.bad.same s⟩
def I5 (K:ky) (a:Addr) (ns:List Int):L2.St→Hp→Prop:=fun σ H=>∃t l b od vl xs,σ=[some (.ref a),some (.ref t),some (.ref l),some (.ref b),some od,some (.ref vl),none,none,none,none,none,none]∧LB K H a t l b ns 2∧od∈odds∧H vl=some (.lst xs)∧vl≠t∧xs.length=11∧∀v∈xs,VG (wo H t) v
theorem ls4:PS (XL P w K mg base f cdv A outer s H0 E) (lq 4) (HT (I4 K a ns) (I5 K a ns)):=by
 refine PS.imp (t:=?_) ?_ ?_
 rotate_left
 ·refine' zx (i:=5) _ _ _ _
  rotate_left
  ·exact jN.nd
  ·rfl
  ·exact Or.inl rfl
  ·refine' qe _
   rotate_left
   ·refine' z6 _ _
    rotate_left 2
    ·exact zh
    refine' z6 _ _
    rotate_left 2
    ·refine' zY Jn _ _
     rotate_left 2
     ·exact zh
     ·exact zh
    refine' z6 _ _
    rotate_left 2
    ·refine' zY jz _ _
     rotate_left 2
     ·refine' zY Jn _ _
      rotate_left 2
      ·exact zh
      ·exact zh
     ·exact zh
    refine' z6 _ _
    rotate_left 2
    ·exact zF
    refine' z6 _ _
    rotate_left 2
    ·exact qV
    refine' z6 _ _
    rotate_left 2
    ·exact zo
    refine' z6 _ _
    rotate_left 2
    ·exact zo
    refine' z6 _ _
    rotate_left 2
    ·exact zo
    refine' z6 _ _
    rotate_left 2
    ·refine' zB _
     rotate_left
     ·refine' z6 _ _
      rotate_left 2
      ·exact zh
      exact z8
    refine' z6 _ _
    rotate_left 2
    ·refine' qe _
     rotate_left
     ·refine' z6 _ _
      rotate_left 2
      ·exact zh
      exact z8
    refine' z6 _ _
    rotate_left 2
    ·exact zo
    exact z8
 rintro D σ H ⟨⟨t,l,b,od,rfl,L,hG,hB,hod⟩,q⟩
 have LB0:LB K H a t l b ns 2:=⟨L,hG,hB⟩
 refine ⟨10,18,rfl,rfl,⟨by decide,by decide,by decide⟩,?_⟩
 refine ⟨10,18,rfl,rfl,⟨by decide,by decide,by decide⟩,?_⟩
 refine ⟨_,_,rfl,rfl,?_⟩
 refine ⟨by show 1≤sizeLine;decide,fun p1 hp1=>?_⟩
 have s1:=zg hp1 (.tup [.int 1])
 refine ⟨by show 1≤sizeLine;decide,fun p2 hp2=>?_⟩
 have s2:=zg hp2 (.lst [.int 1])
 refine ⟨by show 11≤sizeLine;decide,fun p3 hp3=>?_⟩
 have L1:=LB0.same s1
 have L2:=L1.same s2
 have v1:wo (upd (upd H p1 (.tup [.int 1])) p2 (.lst [.int 1])) t p1=some (.tup [.int 1]):=L2.low.tup (s2 _ _ z7)
 have v2:wo (upd (upd H p1 (.tup [.int 1])) p2 (.lst [.int 1])) t p2=some (.lst [.int 1]):=ZN z7 (L1.low.ne hp2)
 generalize upd (upd H p1 (.tup [.int 1])) p2 (.lst [.int 1])=H2 at *
 have vg:∀v∈([.int 1,.int (10 ^ (18:Int).toNat),.int (10 ^ (18:Int).toNat+1),.non,.bl true,.str "Oops",.str "",.str "Oops1",.ref p1,.ref p2,.str "ninesigns"]:List V),VG (wo H2 t) v:=by
  intro v hv
  simp only [kD,kq,or_false] at hv
  rcases hv with rfl | rfl | rfl | rfl | rfl | rfl | rfl | rfl | rfl | rfl | rfl
  ·exact .int _
  ·exact .int _
  ·exact .int _
  ·exact .non
  ·exact .bl _
  ·exact .str _ (by trivial)
  ·exact .str _ (by trivial)
  ·exact .str _ (by trivial)
  ·exact .seq ⟨p1,_,rfl,.inl v1⟩
  ·exact .seq ⟨p2,_,rfl,.inr v2⟩
  ·exact .str _ (by trivial)
 have s3:=zg hp3 (.lst [.int 1,.int (10 ^ (18:Int).toNat),.int (10 ^ (18:Int).toNat+1),.non,.bl true,.str "Oops",.str "",.str "Oops1",.ref p1,.ref p2,.str "ninesigns"])
 exact q _ _ ⟨t,l,b,od,p3,_,rfl,L2.same s3,hod,z7,L2.low.ne hp3,rfl,fun v hv=>(vg v hv).same fun b o e _=>zG s3 _ _ e⟩
def I6 (K:ky) (a:Addr) (ns:List Int):L2.St→Hp→Prop:=fun σ H=>∃t l b od v,σ=[some (.ref a),some (.ref t),some (.ref l),some (.ref b),some od,some v,none,none,none,none,none,none]∧LB K H a t l b ns 3∧od∈odds∧VG (wo H t) v
theorem ls5 (hr:Room 3 (XL P w K mg base f cdv A outer s H0 E).A) (FP:FN P w K mg base 2 "_law_pick" ["_law_script","_law_town_here","_law_some"] (jU K)):PS (XL P w K mg base f cdv A outer s H0 E) (lq 5) (HT (I5 K a ns) (I6 K a ns)):=by
 refine PS.imp (zx (i:=5) jN.nd rfl (Or.inl rfl) (zu FP (hr.mono (by decide)) rfl (z6 (pv 0) (z6 (pv 1) (z6 (pv 5) z8))))) ?_
 rintro D σ H ⟨⟨t,l,b,od,vl,xs,rfl,L,hod,hvl,hvt,hx,hvg⟩,q⟩
 refine ⟨_,rfl,_,rfl,_,rfl,Ze L.low (by decide) hvl hvt (by lia) (by lia) fun v H2 hv L2 s2=>?_⟩
 exact q _ _ ⟨t,l,b,od,v,rfl,L.on L2 s2,hod,(hvg v hv).same fun b o e _=>s2 _ _ e⟩
end
def NG (P:Program) (w:World) (H:Hp) (x:V):Prop:=(∃g,LT H x g)∨NoT P w H x
theorem NG.same {P:Program} {w:World} {H H':Hp} {x:V} (h:NG P w H x) (s:Same H H'):NG P w H' x:=h.elim (fun ⟨g,h⟩=>.inl ⟨g,h.same s⟩) fun h=>.inr (h.same s)
noncomputable def z2G:List Key:=[Sum.inr "a",Sum.inr "abcde",Sum.inr "",Sum.inr "A",Sum.inl 7,Sum.inr "abcd",Sum.inr "a1"]
theorem z3Y {x:V} (h:x∈odds):x=.non∨∃k∈z2G,x=kV k:=by
 unfold odds at h
 simp only [kD,kq,or_false] at h
 unfold z2G
 rcases h with rfl | rfl | rfl | rfl | rfl | rfl | rfl | rfl
 ·exact .inr ⟨Sum.inr "a",by simp,rfl⟩
 ·exact .inr ⟨Sum.inr "abcde",by simp,rfl⟩
 ·exact .inr ⟨Sum.inr "",by simp,rfl⟩
 ·exact .inr ⟨Sum.inr "A",by simp,rfl⟩
 ·exact .inr ⟨Sum.inl 7,by simp,rfl⟩
 ·exact .inl rfl
 ·exact .inr ⟨Sum.inr "abcd",by simp,rfl⟩
 ·exact .inr ⟨Sum.inr "a1",by simp,rfl⟩
theorem z0U:∀k∈z2G,k≠(Sum.inr ("b":Str):Key):=by trivial
theorem z5F:∀k∈z2G,LKy k:=by
 intro k hk
 unfold z2G at hk
 simp only [kD,kq,or_false] at hk
 rcases hk with rfl | rfl | rfl | rfl | rfl | rfl | rfl
 ·exact .inr ⟨_,by trivial,rfl⟩
 ·exact .inr ⟨_,by trivial,rfl⟩
 ·exact .inr ⟨_,by trivial,rfl⟩
 ·exact .inr ⟨_,by trivial,rfl⟩
 ·exact .inl ⟨7,rfl⟩
 ·exact .inr ⟨_,by trivial,rfl⟩
 ·exact .inr ⟨_,by trivial,rfl⟩
theorem z7c {k k':Key} {x y:V} (h:k≠k'):qz [] [(k,x),(k',y)]=[(k,x),(k',y)]:=by
 unfold qz
 simp [putK,h]
section
variable {f:Addr} {cdv:Value} {A:Around} {outer:List Env} {s:Shared} {H0:Hp} {E:XK} {a:Addr} {ns:List Int}
def I7 (P:Program) (w:World) (K:ky) (a:Addr) (ns:List Int):L2.St→Hp→Prop:=fun σ H=>∃t l b od v nm,σ=[some (.ref a),some (.ref t),some (.ref l),some (.ref b),some od,some v,some nm,none,none,none,none,none]∧LB K H a t l b ns 3∧VG (wo H t) v∧NG P w (wo H t) nm
theorem ls6:PS (XL P w K mg base f cdv A outer s H0 E) (lq 6) (HT (I6 K a ns) (I7 P w K a ns)):=by
 refine PS.imp (t:=?_) ?_ ?_
 rotate_left
 ·refine' zx (i:=6) _ _ _ _
  rotate_left
  ·exact jN.nd
  ·rfl
  ·exact Or.inl rfl
  ·refine' PE.or _ _
   rotate_left 2
   ·refine' ZY _ _ _ _ _
    rotate_left
    ·refine' qB _ _ _
     rotate_left 3
     ·exact pv 4
     ·exact zh
     refine' qB _ _ _
     rotate_left 3
     ·exact zo
     ·exact pv 5
     exact Zd
    ·rfl
    ·rfl
    ·exact nofun
    ·decide
   ·refine' z3T _ _ _ _ _
    rotate_left
    ·refine' qB _ _ _
     rotate_left 3
     ·exact pv 4
     ·exact zh
     refine' qB _ _ _
     rotate_left 3
     ·exact zo
     ·exact pv 5
     exact Zd
    ·rfl
    ·rfl
    ·exact nofun
    ·decide
 rintro D σ H ⟨⟨t,l,b,od,v,rfl,L,hod,hvg⟩,q⟩
 rcases z3Y hod with rfl | ⟨k,hk,rfl⟩
 ·refine .inr fun p hp=>?_
  have s1:=zg hp (.dK [])
  refine ⟨_,rfl,_,rfl,z7,"b",.int 1,v,rfl,fun o nd=>?_⟩
  rw [ZP]
  have s2:=zg hp (FzN p o)
  have L2:=L.same s2
  have hvg2:=hvg.same fun b o e _=>zG s2 _ _ e
  exact q _ _ ⟨t,l,b,.non,v,.ref p,rfl,L2,hvg2,.inr ⟨p,o,v,rfl,ZN z7 (L.low.ne hp),nd,hvg2.val⟩⟩
 ·refine .inl fun p hp=>?_
  refine ⟨_,rfl,_,rfl,z7,[(k,.int 1),(Sum.inr "b",v)],rfl,by show 2≤15;decide,?_⟩
  rw [ZP,z7c (z0U k hk)]
  have s2:=zg hp (.dK [(k,.int 1),(Sum.inr "b",v)])
  have L2:=L.same s2
  have hvg2:=hvg.same fun b o e _=>zG s2 _ _ e
  refine q _ _ ⟨t,l,b,kV k,v,.ref p,rfl,L2,hvg2,.inl ⟨_,.dct (L2.low.dict z7) (by show 2≤8;decide) (fun p hp=>?_) fun p hp=>?_⟩⟩
  ·rcases kD.mp hp with rfl | hp
   ·exact ⟨z5F k hk,.int 1⟩
   ·cases ko.mp hp
    exact ⟨.inr ⟨"b",by trivial,rfl⟩,hvg2⟩
  ·rcases kD.mp hp with rfl | hp
   ·exact ql rfl
   ·cases ko.mp hp
    exact (qy (z0U k hk)).trans (ql rfl)
end
theorem z3j {n:Nat} {g:TG} {tc:TT} {te:TE} {R:Hp→Prop} {H:Hp} {l:Addr} {σ0:L2.St} (Pv:Nat→List V→L2.St→Hp→Prop) (h0:Pv 0 [] σ0 (upd H l (.lst [])))
  (hs:∀(i:Nat) ys σ H,i < n→Pv i ys σ H→g (.int (i:Int)) σ H fun σ2 H4=>tc σ2 H4 fun b H5=>if b=true then te σ2 H5 fun v H6=>H6 l=some (.lst ys)∧ys.length < sizeLine∧∃m',m' < n - i∧m'=n - (i+1)∧i+1≤n∧Pv (i+1) (ys++[v]) σ2 (upd H6 l (.lst (ys++[v])))
   else ∃m',m' < n - i∧m'=n - (i+1)∧i+1≤n∧Pv (i+1) ys σ2 H5) (hd:∀ys σ H,Pv n ys σ H→R H):
  ∃W:Nat→Nat→List V→L2.St→Hp→Prop,(∃m,W 0 m [] σ0 (upd H l (.lst [])))∧∀i m ys σ' H2,W i m ys σ' H2→
   ((Itr 0 n).stop i H2∧R H2)∨((Itr 0 n).go i H2∧∀x H3,(Itr 0 n).yld i H2 x H3→g x σ' H3 fun σ2 H4=>tc σ2 H4 fun b H5=>if b=true then te σ2 H5 fun v H6=>H6 l=some (.lst ys)∧ys.length < sizeLine∧∃m',m' < m∧W (i+1) m' (ys++[v]) σ2 (upd H6 l (.lst (ys++[v])))
    else ∃m',m' < m∧W (i+1) m' ys σ2 H5):=by
 refine ⟨fun i m ys σ H=>m=n - i∧i≤n∧Pv i ys σ H,⟨n,by simp,Nat.zero_le _,h0⟩,?_⟩
 rintro i m ys σ H ⟨rfl,hi,p⟩
 by_cases hlt:i < n
 ·refine .inr ⟨hlt,fun x H' y=>?_⟩
  obtain ⟨e,e2⟩:=y
  subst e
  have e2:x=.int (i:Int):=by rw [e2,Int.zero_add]
  subst e2
  exact hs i ys σ _ hlt p
 ·have e:i=n:=by lia
  subst e
  exact .inl ⟨ke _,hd ys σ H p⟩
noncomputable def ZQ:Str:="abcdefghijkl"
noncomputable def kv12 (i:Nat):Key × V:=(Sum.inr ⟨#[ZQ.cps.toList.getD i 0]⟩,.int (i:Int))
noncomputable def kvsN (n:Nat):List (Key × V):=(List.range n).map kv12
theorem z1O:∀i∈List.range 9,atI ZQ.cps.toList ((i:Nat):Int)=some (ZQ.cps.toList.getD i 0):=by trivial
theorem kvs8:qz [] (kvsN 8)=kvsN 8∧(∀p∈kvsN 8,valV (kvsN 8) p.1=some p.2)∧(qz [] (kvsN 9)).length=9:=by
 refine ⟨by trivial,by trivial,by trivial⟩
theorem z7j:∀i∈List.range 8,(⟨#[ZQ.cps.toList.getD i 0]⟩:Str)∈nmL:=by trivial
theorem ndk:(["_law_k"]:List Str).Nodup:=by trivial
theorem z0Y {i:Nat} {x:V} {σ:L2.St} {H:Hp} {k:L2.St→Hp→Prop} (h:k (σ.set i (some x)) H):z2T i x σ H k:=h
theorem Z6.keepP {H H':Hp}:∀{as:List Addr} {kvs:List (Key × V)},Z6 H as kvs→(∀c xs,H c=some (.tup xs)→H' c=some (.tup xs))→Z6 H' as kvs
 | _,_,.nil,_=>.nil
 | _,_,.cons h t,k=>.cons (k _ _ h) (Z6.keepP t k)
theorem Z6.append {H:Hp}:∀{as bs:List Addr} {ks ls:List (Key × V)},Z6 H as ks→Z6 H bs ls→Z6 H (as++bs) (ks++ls)
 | _,_,_,_,.nil,s=>s
 | _,_,_,_,.cons r t,s=>.cons r (Z6.append t s)
section
variable {f:Addr} {cdv:Value} {A:Around} {outer:List Env} {s:Shared} {H0:Hp} {E:XK} {a:Addr} {ns:List Int}
def I8 (P:Program) (w:World) (K:ky) (a:Addr) (ns:List Int):L2.St→Hp→Prop:=fun σ H=>∃t l b od v nm,σ=[some (.ref a),some (.ref t),some (.ref l),some (.ref b),some od,some v,some nm,none,none,none,none,none]∧LB K H a t l b ns 5∧VG (wo H t) v∧NG P w (wo H t) nm
theorem ls7 (hr:Room 3 (XL P w K mg base f cdv A outer s H0 E).A) (G:Glo mg) (FD:FN P w K mg base 1 "_law_draw" ["_law_script","_law_town_here","_law_many"] (Jc K)) (FP:FN P w K mg base 2 "_law_pick" ["_law_script","_law_town_here","_law_some"] (jU K)):PS (XL P w K mg base f cdv A outer s H0 E) (lq 7) (HT (I7 P w K a ns) (I8 P w K a ns)):=by
 refine PS.imp (zJ (zn qC (zu FD (hr.mono (by decide)) rfl (z6 (pv 0) (z6 (pv 1) (z6 zh z8)))) zh (zt _))
  (zf (zx (i:=6) jN.nd rfl (Or.inl rfl) (jg (z1E rfl) rfl G.dict qY (z6 (ZL (N:=["_law_k"]) (nt:=1) (ix:=[]) (cl:=[]) rfl (qA.plain (by trivial) (by trivial) rfl (by trivial) rfl)
   (Jk rfl G.range (z6 (zu FP (hr.mono (by decide)) rfl (z6 (pv 0) (z6 (pv 1) (z6 (qe (z6 zh (z6 zh z8))) z8)))) z8)) (fun _ _ _ _=>zw (i:=0) ndk rfl (Or.inl rfl)) (fun _ _ _ _=>Zc)
   (fun _ _ _ _=>zB (z6 (zS z7o zo (pv 0) (fun _ _=>rfl)) (z6 (pv 0) z8)))) z8)))) zq) ?_
 rintro D σ H ⟨⟨t,l,b,od,v,nm,rfl,L,hvg,hng⟩,q⟩
 refine ⟨_,rfl,_,rfl,z6h L.low (by decide) (by decide) (by decide) fun i H1 i0 i1 L1 s1=>?_⟩
 have LB1:=L.on L1 s1
 have hvg1:=hvg.same fun b o e _=>s1 _ _ e
 have hng1:=hng.same s1
 refine ⟨rfl,_,rfl,?_⟩
 refine ite2 (fun c=>?_) (fun c=>?_)
 ·refine ⟨_,rfl,_,rfl,by show 2≤sizeLine;decide,fun p hp=>?_⟩
  have s2:=zg hp (.lst [.int 8,.int 9])
  refine Ze (L1.same s2) (by decide) z7 (L1.ne hp) (by show 1≤2;decide) (by show 2≤1000;decide) fun x H3 hv L3 s3=>?_
  obtain ⟨n,rfl,hn⟩:∃n:Nat,x=.int (n:Nat)∧(n=8∨n=9):=by
   simp only [kD,kq,or_false] at hv
   rcases hv with rfl | rfl
   ·exact ⟨8,rfl,.inl rfl⟩
   ·exact ⟨9,rfl,.inr rfl⟩
  have s13:Same (wo H1 t) (wo H3 t):=(zG s2).trans s3
  have LB3:=LB1.on L3 s13
  have hvg3:=hvg1.same fun b o e _=>s13 _ _ e
  have hn9:n≤9:=by lia
  refine ⟨_,rfl,by lia,by lia,fun bl hbl=>?_⟩
  rw [kZ]
  refine z3j (fun i ys σ H4=>(∃x,σ=[x])∧(∃ps,ys=ps.map V.ref∧Z6 H4 ps (kvsN i))∧Same H3 H4∧H4 bl=some (.lst ys)∧ys.length=i) ⟨⟨none,rfl⟩,⟨[],rfl,.nil⟩,zg hbl _,z7,rfl⟩ ?_ ?_
  ·rintro i ys σ H4 hi ⟨⟨x,rfl⟩,⟨ps,rfl,hps⟩,s4,hb4,hlen⟩
   have hat:=z1O i (List.mem_range.mpr (by lia))
   refine z0Y (Z8 ?_)
   refine ⟨_,rfl,ZQ,_,_,rfl,rfl,by decide,hat,_,rfl,by show 2≤sizeLine;decide,fun p5 hp5=>?_⟩
   have s5:=zg hp5 (.tup [.str ⟨#[ZQ.cps.toList.getD i 0]⟩,.int (i:Int)])
   have nb:bl≠p5:=zc hb4 hp5
   refine ⟨s5 _ _ hb4,by rw [hlen];exact zV (by lia),_,by lia,rfl,by lia,⟨_,rfl⟩,⟨ps++[p5],by rw [kJ];rfl,?_⟩,My.Same.upd (s4.trans s5) hbl _,z7,by rw [kl,hlen];rfl⟩
   have ek:kvsN (i+1)=kvsN i++[kv12 i]:=by unfold kvsN;rw [List.range_succ,kJ];rfl
   rw [ek]
   have keep:∀c xs,H4 c=some (.tup xs)→(upd (upd H4 p5 (.tup [.str ⟨#[ZQ.cps.toList.getD i 0]⟩,.int (i:Int)])) bl (.lst (ps.map V.ref++[.ref p5]))) c=some (.tup xs):=fun c xs e=>by
    rw [ze (zD e hb4 nofun)]
    exact s5 _ _ e
   refine Z6.append (Z6.keepP hps keep) (.cons ?_ .nil)
   rw [ze nb.symm]
   exact z7
  ·rintro ys σ H4 ⟨_,⟨ps,rfl,hps⟩,s4,hb4,hlen⟩
   refine ⟨bl,ps,kvsN n,rfl,hb4,hps,by unfold kvsN;rw [kj,List.length_range];lia,fun d hd=>?_⟩
   have L4:=LB3.same s4
   have s5:=zg hd (.dK (qz [] (kvsN n)))
   have L5:=L4.same s5
   refine q _ _ ⟨t,l,b,od,v,.ref d,rfl,L5,(hvg3.same fun b o e _=>zG s4 _ _ e).same fun b o e _=>zG s5 _ _ e,.inl ?_⟩
   have hdd:wo (upd H4 d (.dK (qz [] (kvsN n)))) t d=some (.dK (qz [] (kvsN n))):=L5.low.dict z7
   rcases hn with rfl | rfl
   ·rw [kvs8.1] at hdd ⊢
    refine ⟨_,.dct hdd (by trivial) (fun p hp=>?_) kvs8.2.1⟩
    obtain ⟨i,hi,rfl⟩:=List.mem_map.mp hp
    exact ⟨.inr ⟨_,z7j i hi,rfl⟩,.int _⟩
   ·exact ⟨_,.many hdd (by rw [kvs8.2.2];decide)⟩
 ·exact q _ _ ⟨t,l,b,od,v,nm,rfl,⟨⟨L1.scr,L1.len,by obtain ⟨c,cells,e1,e2,e3⟩:=L1.tow;exact ⟨c,cells,e1,by lia,e3⟩⟩,LB1.good,LB1.bad⟩,hvg1,hng1⟩
end
theorem z7d {k:Key} {x:V}:qz [] [(k,x)]=[(k,x)]:=rfl
noncomputable def J8:List V:=[.int 0,.int 1,.int 100000,.int 100001,.int (-1),.bl true,.non,.str "1"]
section
variable {f:Addr} {cdv:Value} {A:Around} {outer:List Env} {s:Shared} {H0:Hp} {E:XK} {a:Addr} {ns:List Int}
def I9 (P:Program) (w:World) (K:ky) (a:Addr) (ns:List Int):L2.St→Hp→Prop:=fun σ H=>∃t l b od v nm th,σ=[some (.ref a),some (.ref t),some (.ref l),some (.ref b),some od,some v,some nm,some th,none,none,none,none]∧LB K H a t l b ns 6∧NG P w (wo H t) th
theorem ls8 (hr:Room 3 (XL P w K mg base f cdv A outer s H0 E).A) (FP:FN P w K mg base 2 "_law_pick" ["_law_script","_law_town_here","_law_some"] (jU K)):PS (XL P w K mg base f cdv A outer s H0 E) (lq 8) (HT (I8 P w K a ns) (I9 P w K a ns)):=by
 refine PS.imp (t:=?_) ?_ ?_
 rotate_left
 ·refine' zx (i:=7) _ _ _ _
  rotate_left
  ·exact jN.nd
  ·rfl
  ·exact Or.inl rfl
  ·refine' zu FP _ _ _
   rotate_left
   ·exact hr.mono (by decide)
   ·rfl
   ·refine' z6 _ _
    rotate_left 2
    ·exact pv 0
    refine' z6 _ _
    rotate_left 2
    ·exact pv 1
    refine' z6 _ _
    rotate_left 2
    ·refine' qe _
     rotate_left
     ·refine' z6 _ _
      rotate_left 2
      ·exact pv 6
      refine' z6 _ _
      rotate_left 2
      ·refine' ZY _ _ _ _ _
       rotate_left
       ·refine' qB _ _ _
        rotate_left 3
        ·exact zo
        ·exact pv 5
        exact Zd
       ·rfl
       ·rfl
       ·exact nofun
       ·decide
      refine' z6 _ _
      rotate_left 2
      ·exact zF
      refine' z6 _ _
      rotate_left 2
      ·refine' qe _
       rotate_left
       ·refine' z6 _ _
        rotate_left 2
        ·refine' zB _
         rotate_left
         ·refine' z6 _ _
          rotate_left 2
          ·exact zo
          refine' z6 _ _
          rotate_left 2
          ·exact zh
          exact z8
        exact z8
      refine' z6 _ _
      rotate_left 2
      ·exact zo
      refine' z6 _ _
      rotate_left 2
      ·refine' zB _
       rotate_left
       ·exact z8
      exact z8
    exact z8
 rintro D σ H ⟨⟨t,l,b,od,v,nm,rfl,L,hvg,hng⟩,q⟩
 refine ⟨_,rfl,_,rfl,_,rfl,fun d hd=>?_⟩
 refine ⟨_,rfl,z7,[(Sum.inr "c",v)],rfl,by show 1≤15;decide,?_⟩
 rw [ZP,z7d]
 have s1:=zg hd (.dK [(Sum.inr "c",v)])
 have hd1:upd H d (.dK [(Sum.inr "c",v)]) d=some (.dK [(Sum.inr "c",v)]):=z7
 have L1:=L.same s1
 have hvg1:=hvg.same fun b o e _=>zG s1 _ _ e
 have hng1:=hng.same (zG s1)
 generalize upd H d (.dK [(Sum.inr "c",v)])=H1 at *
 refine ⟨by show 2≤sizeLine;decide,fun p2 hp2=>?_⟩
 have s2:=zg hp2 (.tup [.str "a",.int 1])
 refine ⟨by show 1≤sizeLine;decide,fun p3 hp3=>?_⟩
 have s3:=zg hp3 (.lst [.ref p2])
 refine ⟨by show 0≤sizeLine;decide,fun p4 hp4=>?_⟩
 have s4:=zg hp4 (.tup [])
 refine ⟨by show 6≤sizeLine;decide,fun p5 hp5=>?_⟩
 have s5:=zg hp5 (.lst [nm,.ref d,.non,.ref p3,.str "a",.ref p4])
 have L2:=L1.same s2
 have L3:=L2.same s3
 have L4:=L3.same s4
 have L5:=L4.same s5
 have g3:wo (upd (upd H1 p2 (.tup [.str "a",.int 1])) p3 (.lst [.ref p2])) t p3=some (.lst [.ref p2]):=ZN z7 (L2.low.ne hp3)
 have s14:=(s2.trans s3).trans s4
 have ng:∀x∈([nm,.ref d,.non,.ref p3,.str "a",.ref p4]:List V),NG P w (wo (upd (upd (upd H1 p2 (.tup [.str "a",.int 1])) p3 (.lst [.ref p2])) p4 (.tup [])) t) x:=by
  intro x hx
  simp only [kD,kq,or_false] at hx
  rcases hx with rfl | rfl | rfl | rfl | rfl | rfl
  ·exact hng1.same (zG s14)
  ·refine .inl ⟨_,.dct (kvs:=[(Sum.inr "c",v)]) (L4.low.dict (s14 _ _ hd1)) (by show 1≤8;decide) (fun p hp=>?_) fun p hp=>?_⟩
   ·cases ko.mp hp
    exact ⟨.inr ⟨"c",by trivial,rfl⟩,hvg1.same fun b o e _=>zG s14 _ _ e⟩
   ·cases ko.mp hp
    exact ql rfl
  ·exact .inl ⟨_,.non⟩
  ·exact .inl ⟨_,.lst (zG s4 _ _ g3)⟩
  ·exact .inl ⟨_,.str _⟩
  ·exact .inl ⟨_,.tup (L4.low.tup z7)⟩
 refine Ze L5.low (by decide) z7 (L4.low.ne hp5) (by show 1≤6;decide) (by show 6≤1000;decide) fun x H6 hv L6 s6=>?_
 exact q _ _ ⟨t,l,b,od,v,nm,x,rfl,L5.on L6 s6,((ng x hv).same (zG s5)).same s6⟩
def I10 (P:Program) (w:World) (K:ky) (a:Addr) (ns:List Int):L2.St→Hp→Prop:=fun σ H=>∃t l b od v nm th st x9 x10,σ=[some (.ref a),some (.ref t),some (.ref l),some (.ref b),some od,some v,some nm,some th,some st,x9,x10,none]∧LB K H a t l b ns 7∧NG P w (wo H t) th∧st∈J8
theorem ls9 (hr:Room 3 (XL P w K mg base f cdv A outer s H0 E).A) (FP:FN P w K mg base 2 "_law_pick" ["_law_script","_law_town_here","_law_some"] (jU K)):PS (XL P w K mg base f cdv A outer s H0 E) (lq 9) (HT (I9 P w K a ns) (I10 P w K a ns)):=by
 refine PS.imp (t:=?_) ?_ ?_
 rotate_left
 ·refine' zx (i:=8) _ _ _ _
  rotate_left
  ·exact jN.nd
  ·rfl
  ·exact Or.inl rfl
  ·refine' zu FP _ _ _
   rotate_left
   ·exact hr.mono (by decide)
   ·rfl
   ·refine' z6 _ _
    rotate_left 2
    ·exact pv 0
    refine' z6 _ _
    rotate_left 2
    ·exact pv 1
    refine' z6 _ _
    rotate_left 2
    ·refine' qe _
     rotate_left
     ·refine' z6 _ _
      rotate_left 2
      ·exact zh
      refine' z6 _ _
      rotate_left 2
      ·exact zh
      refine' z6 _ _
      rotate_left 2
      ·exact zh
      refine' z6 _ _
      rotate_left 2
      ·exact zh
      refine' z6 _ _
      rotate_left 2
      ·exact jP qS zh
      refine' z6 _ _
      rotate_left 2
      ·exact qV
      refine' z6 _ _
      rotate_left 2
      ·exact zF
      refine' z6 _ _
      rotate_left 2
      ·exact zo
      exact z8
    exact z8
 rintro D σ H ⟨⟨t,l,b,od,v,nm,th,rfl,L,hng⟩,q⟩
 refine ⟨_,rfl,_,rfl,1,rfl,by show 8≤sizeLine;decide,fun p hp=>?_⟩
 have s1:=zg hp (.lst J8)
 refine Ze (L.same s1).low (by decide) z7 (L.low.ne hp) (by show 1≤8;decide) (by show 8≤1000;decide) fun x H2 hv L2 s2=>?_
 exact q _ _ ⟨t,l,b,od,v,nm,th,x,none,none,rfl,(L.same s1).on L2 s2,(hng.same (zG s1)).same s2,hv⟩
end
section
variable {P:Program} {w:World} {K:ky} {CM c1 c2 c3 c4 c5 c6 c7 c8:Addr} {H:Hp} {Q:VK} {E:XK} {way:Int} {p l:Addr} {nm st:V}
abbrev SpT (P:Program) (w:World) (K:ky) (CM c1 c2 c3 c4 c5 c6 c7 c8:Addr):Sp:=z23 K CM c1 c2 c3 c4 c5 c6 c7 c8 (z1Z P w K c2 c3 c4)
theorem z7M (e:Err1 K CM c1 c2 c3 c4 c5 c6 c7 c8 c4 3) (hw:way=0∨way=1) (hp:H p=some (.tup [.ref l,nm,st])) (h:Bad0 H l) (q:∀t H2,Same H H2→H2 t=some (.tup [.str "refused",.int 3])→Q (.ref t) H2):SpT P w K CM c1 c2 c3 c4 c5 c6 c7 c8 [.int way,.ref p] H Q E:=
 ⟨_,_,rfl,way,p,l,nm,st,rfl,hp,hw,.inl ⟨h,fun H1 s1=>⟨c4,3,rfl,e,fun t H2 s2 ht=>q t H2 (s1.trans s2) ht⟩⟩⟩
theorem z3u (e:Err1 K CM c1 c2 c3 c4 c5 c6 c7 c8 c2 1) (hw:way=0∨way=1) (hp:H p=some (.tup [.ref l,nm,st])) (h:jT H l) (hn:NB P w H nm) (q:∀t H2,Same H H2→H2 t=some (.tup [.str "refused",.int 1])→Q (.ref t) H2):SpT P w K CM c1 c2 c3 c4 c5 c6 c7 c8 [.int way,.ref p] H Q E:=
 ⟨_,_,rfl,way,p,l,nm,st,rfl,hp,hw,.inr (.inl ⟨h,hn,fun H1 s1=>⟨c2,1,rfl,e,fun t H2 s2 ht=>q t H2 (s1.trans s2) ht⟩⟩)⟩
theorem z6x (e:Err1 K CM c1 c2 c3 c4 c5 c6 c7 c8 c3 2) (hp:H p=some (.tup [.ref l,nm,st])) (h:jT H l) (hn:ji H nm true) (hs:Scal st) (hi:qg st 0 100000=false) (q:∀t H2,Same H H2→H2 t=some (.tup [.str "refused",.int 2])→Q (.ref t) H2):SpT P w K CM c1 c2 c3 c4 c5 c6 c7 c8 [.int 0,.ref p] H Q E:=
 ⟨_,_,rfl,0,p,l,nm,st,rfl,hp,.inl rfl,.inr (.inr (.inl ⟨rfl,h,hn,hs,hi,fun H1 s1=>⟨c3,2,rfl,e,fun t H2 s2 ht=>q t H2 (s1.trans s2) ht⟩⟩))⟩
theorem z7L {d:Addr} {n:Nat} (hp:H p=some (.tup [.ref l,.ref d,.int (n:Nat)])) (h:jT H l) (hd:H d=some (.dK [])) (hn:n≤100000) (q:∀y t H2,Same H H2→H2 t=some (.tup [.str "found",y])→Q (.ref t) H2):SpT P w K CM c1 c2 c3 c4 c5 c6 c7 c8 [.int 0,.ref p] H Q E:=
 ⟨_,_,rfl,0,p,l,_,_,rfl,hp,.inl rfl,.inr (.inr (.inr (.inl ⟨rfl,h,⟨d,n,rfl,hd,rfl,hn⟩,fun y H1 s1 t H2 s2 ht=>q y t H2 (s1.trans s2) ht⟩)))⟩
theorem z7N (hp:H p=some (.tup [.ref l,nm,st])) (h:jT H l) (hn:ji H nm true) (q:∀ea t H1 H2,Same H H1→Same H1 H2→SqT K H1 ea [.str "on"]→H2 t=some (.tup [.str "found",.ref ea])→Q (.ref t) H2):SpT P w K CM c1 c2 c3 c4 c5 c6 c7 c8 [.int 1,.ref p] H Q E:=
 ⟨_,_,rfl,1,p,l,nm,st,rfl,hp,.inr rfl,.inr (.inr (.inr (.inr ⟨rfl,h,hn,fun ea H1 s1 hea t H2 s2 ht=>q ea t H1 H2 s1 s2 hea ht⟩)))⟩
end
section
variable {f:Addr} {cdv:Value} {A:Around} {outer:List Env} {s:Shared} {H0:Hp} {E:XK} {a:Addr} {ns:List Int} {CM c1 c2 c3 c4 c5 c6 c7 c8:Addr}
theorem ls10 (hr:Room 15 (XL P w K mg base f cdv A outer s H0 E).A) (G:Glo mg) (e2:Err1 K CM c1 c2 c3 c4 c5 c6 c7 c8 c2 1) (e3:Err1 K CM c1 c2 c3 c4 c5 c6 c7 c8 c3 2) (e4:Err1 K CM c1 c2 c3 c4 c5 c6 c7 c8 c4 3)
  (FT:FN P w K mg base 15 "_law_told" ["_law_way","_law_some"] (SpT P w K CM c1 c2 c3 c4 c5 c6 c7 c8)) (FR:FN P w K mg base 1 "_law_refused" ["_law_word_here"] z3B) (FG:FN P w K mg base 3 "_law_names_good" ["_law_thing"] spNG) (FN1:FN P w K mg base 3 "_law_names_good" ["_law_thing"] (z5g P w)):
  PS (XL P w K mg base f cdv A outer s H0 E) (lq 10) (HT (I10 P w K a ns) (I10 P w K a ns)):=by
 have hr1:=hr.mono (show 1≤15 by decide)
 have hr3:=hr.mono (show 3≤15 by decide)
 have hu3:(XL P w K mg base f cdv A outer s H0 E).A.units+3 < cLine:=by have:=hr.un;lia
 refine PS.imp (Qn PassesOwn.never rfl (Jk rfl G.range (z6 zh z8)) (zw (i:=9) jN.nd rfl (Or.inl rfl))
  (zb (zJ (zn (z0h hu3) (zu FT hr rfl (z6 (pv 9) (z6 (zB (z6 (pv 3) (z6 zF (z6 zF z8)))) z8))) (zu FR hr1 rfl (z6 zo z8)) (zt _)) (zf (zk qV)) zq)
  (zb (zx (i:=10) jN.nd rfl (Or.inl rfl) (zu FT hr rfl (z6 (pv 9) (z6 (zB (z6 (pv 2) (z6 (pv 7) (z6 (qG (zn qC (pv 9) zh (zt _)) zF zh) z8)))) z8))))
  (zb (zJ (PW.pt (ZV (qw (zX (PE.or (zu FG hr3 rfl (z6 (pv 7) z8)) (zu FN1 hr3 rfl (z6 (pv 7) z8))))) (jO (zn (z0h hu3) (pv 10) (zu FR hr1 rfl (z6 zo z8)) (zt _))))) (zf (zk qV)) zq)
  (zf (zJ (PW.pt (ZV (zX (PE.or (zu FG hr3 rfl (z6 (pv 7) z8)) (zu FN1 hr3 rfl (z6 (pv 7) z8)))) (jO (zn (z0h hu3) (pv 10) (qG (zn qC (pv 9) zh (zt _)) (zu FR hr1 rfl (z6 zo z8)) (zB (z6 zo (z6 (zB (z6 zo z8)) z8)))) (zt _))))) (zf (zk qV)) zq)))))) ?_
 rintro D σ H ⟨hI,q⟩
 refine ⟨2,rfl,by decide,by decide,z2X (fun _ σ H=>I10 P w K a ns σ H) hI (fun i σ H hi hI=>?_) fun σ H hI=>q σ H hI⟩
 clear q
 obtain ⟨t,l,b,od,v,nm,th,st,x9,x10,rfl,L,hng,hst⟩:=hI
 have hi2:i < 2:=hi
 have hway:(0:Int)+(i:Int)=0∨(0:Int)+(i:Int)=1:=by lia
 refine z0Y ?_
 refine ⟨_,rfl,_,rfl,by show 3≤sizeLine;decide,fun p1 hp1=>?_⟩
 have s1:=zg hp1 (.tup [.ref b,.non,.non])
 refine z7M e4 hway z7 (L.bad.same (Zz.trans s1)) fun t2 H2 s2 ht2=>?_
 refine ⟨"unsound",3,rfl,.inr (.inr ⟨rfl,rfl⟩),fun t3 H3 s3 ht3=>?_⟩
 refine ⟨.ref (SqT.of (s3 _ _ ht2)) (SqT.of ht3),_,rfl,iteF ?_⟩
 have L3:=L.same ((s1.trans s2).trans s3)
 have hng3:=hng.same (zG ((s1.trans s2).trans s3))
 clear s1 s2 s3 L hng ht2 ht3 hp1
 have two:i=0∨i=1:=by lia
 rcases two with rfl | rfl
 ·refine ⟨_,rfl,_,rfl,_,rfl,_,rfl,rfl,_,rfl,iteT ?_⟩
  refine ⟨by show 3≤sizeLine;decide,fun p4 hp4=>?_⟩
  have s4:=zg hp4 (.tup [.ref l,th,.non])
  have L4:=L3.same s4
  have hng4:=hng3.same (zG s4)
  have fin:∀{x} H',Same (upd H3 p4 (.tup [.ref l,th,.non])) H'→I10 P w K a ns [some (.ref a),some (.ref t),some (.ref l),some (.ref b),some od,some v,some nm,some th,some st,some (.int (0+((0:Nat):Int))),x,none] H':=fun H' s'=>⟨t,l,b,od,v,nm,th,st,_,_,rfl,L4.same s',hng4.same (zG s'),hst⟩
  rcases hng4 with ⟨g,hT⟩ | hN
  ·have hT4:=hT.same Zz
   cases g with
   | true=>
    refine z6x e3 z7 (L4.good.same Zz) hT4.thing .non rfl fun t5 H5 s5 ht5=>?_
    refine .inl ⟨_,rfl,th,true,rfl,hT4.same s5,fun H6 s6=>⟨_,rfl,iteF (iteF ?_)⟩⟩
    refine .inl ⟨_,rfl,th,true,rfl,(hT4.same s5).same s6,fun H7 s7=>⟨_,rfl,iteT ?_⟩⟩
    refine ⟨_,rfl,_,rfl,rfl,_,rfl,iteT ?_⟩
    refine ⟨"number",2,rfl,.inr (.inl ⟨rfl,rfl⟩),fun t8 H8 s8 ht8=>⟨.ref (SqT.of (((s6.trans s7).trans s8) _ _ ht5)) (SqT.of ht8),_,rfl,iteF ?_⟩⟩
    exact fin _ (s5.trans ((s6.trans s7).trans s8))
   | false=>
   refine z3u e2 (.inl rfl) z7 (L4.good.same Zz) (.inl hT4.thing) fun t5 H5 s5 ht5=>?_
   refine .inl ⟨_,rfl,th,false,rfl,hT4.same s5,fun H6 s6=>⟨_,rfl,iteT ?_⟩⟩
   refine ⟨_,rfl,"names",1,rfl,.inl ⟨rfl,rfl⟩,fun t7 H7 s7 ht7=>⟨.ref (SqT.of ((s6.trans s7) _ _ ht5)) (SqT.of ht7),_,rfl,iteF ?_⟩⟩
   refine .inl ⟨_,rfl,th,false,rfl,(hT4.same s5).same (s6.trans s7),fun H8 s8=>⟨_,rfl,iteF (iteF ?_)⟩⟩
   exact fin _ ((s5.trans (s6.trans s7)).trans s8)
  ·have hN4:=hN.same Zz
   refine z3u e2 (.inl rfl) z7 (L4.good.same Zz) (.inr hN4) fun t5 H5 s5 ht5=>?_
   refine .inr ⟨_,rfl,th,rfl,hN4.same s5,fun H6 s6=>⟨_,rfl,iteT ?_⟩⟩
   refine ⟨_,rfl,"names",1,rfl,.inl ⟨rfl,rfl⟩,fun t7 H7 s7 ht7=>⟨.ref (SqT.of ((s6.trans s7) _ _ ht5)) (SqT.of ht7),_,rfl,iteF ?_⟩⟩
   refine .inr ⟨_,rfl,th,rfl,(hN4.same s5).same (s6.trans s7),fun H8 s8=>⟨_,rfl,iteF (iteF ?_)⟩⟩
   exact fin _ ((s5.trans (s6.trans s7)).trans s8)
 ·refine ⟨_,rfl,_,rfl,_,rfl,_,rfl,rfl,_,rfl,iteF ?_⟩
  refine ⟨by show 3≤sizeLine;decide,fun p4 hp4=>?_⟩
  have s4:=zg hp4 (.tup [.ref l,th,.int 1])
  have L4:=L3.same s4
  have hng4:=hng3.same (zG s4)
  have fin:∀{x} H',Same (upd H3 p4 (.tup [.ref l,th,.int 1])) H'→I10 P w K a ns [some (.ref a),some (.ref t),some (.ref l),some (.ref b),some od,some v,some nm,some th,some st,some (.int (0+((1:Nat):Int))),x,none] H':=fun H' s'=>⟨t,l,b,od,v,nm,th,st,_,_,rfl,L4.same s',hng4.same (zG s'),hst⟩
  rcases hng4 with ⟨g,hT⟩ | hN
  ·have hT4:=hT.same Zz
   cases g with
   | true=>
    refine z7N z7 (L4.good.same Zz) hT4.thing fun ea t5 H5a H5 s5a s5b hea ht5=>?_
    have s5:=s5a.trans s5b
    refine .inl ⟨_,rfl,th,true,rfl,hT4.same s5,fun H6 s6=>⟨_,rfl,iteF (iteF ?_)⟩⟩
    refine .inl ⟨_,rfl,th,true,rfl,(hT4.same s5).same s6,fun H7 s7=>⟨_,rfl,iteT ?_⟩⟩
    refine ⟨_,rfl,_,rfl,rfl,_,rfl,iteF ?_⟩
    refine ⟨by show 1≤sizeLine;decide,fun p8 hp8=>?_⟩
    have s8:=zg hp8 (.tup [.str "on"])
    refine ⟨by show 2≤sizeLine;decide,fun p9 hp9=>?_⟩
    have s9:=zg hp9 (.tup [.str "found",.ref p8])
    have s69:=((s6.trans s7).trans s8).trans s9
    refine ⟨.fnd (SqT.of (s69 _ _ ht5)) (SqT.of z7) (qJ (s5b.trans s69) hea) (SqT.of (s9 _ _ z7)),_,rfl,iteF ?_⟩
    exact fin _ (s5.trans s69)
   | false=>
   refine z3u e2 (.inr rfl) z7 (L4.good.same Zz) (.inl hT4.thing) fun t5 H5 s5 ht5=>?_
   refine .inl ⟨_,rfl,th,false,rfl,hT4.same s5,fun H6 s6=>⟨_,rfl,iteT ?_⟩⟩
   refine ⟨_,rfl,"names",1,rfl,.inl ⟨rfl,rfl⟩,fun t7 H7 s7 ht7=>⟨.ref (SqT.of ((s6.trans s7) _ _ ht5)) (SqT.of ht7),_,rfl,iteF ?_⟩⟩
   refine .inl ⟨_,rfl,th,false,rfl,(hT4.same s5).same (s6.trans s7),fun H8 s8=>⟨_,rfl,iteF (iteF ?_)⟩⟩
   exact fin _ ((s5.trans (s6.trans s7)).trans s8)
  ·have hN4:=hN.same Zz
   refine z3u e2 (.inr rfl) z7 (L4.good.same Zz) (.inr hN4) fun t5 H5 s5 ht5=>?_
   refine .inr ⟨_,rfl,th,rfl,hN4.same s5,fun H6 s6=>⟨_,rfl,iteT ?_⟩⟩
   refine ⟨_,rfl,"names",1,rfl,.inl ⟨rfl,rfl⟩,fun t7 H7 s7 ht7=>⟨.ref (SqT.of ((s6.trans s7) _ _ ht5)) (SqT.of ht7),_,rfl,iteF ?_⟩⟩
   refine .inr ⟨_,rfl,th,rfl,(hN4.same s5).same (s6.trans s7),fun H8 s8=>⟨_,rfl,iteF (iteF ?_)⟩⟩
   exact fin _ ((s5.trans (s6.trans s7)).trans s8)
end
theorem z0F {x:V} (h:x∈J8):Scal x∧((∃n:Nat,x=.int (n:Nat)∧n≤100000∧qg x 0 100000=true)∨qg x 0 100000=false):=by
 unfold J8 at h
 simp only [kD,kq,or_false] at h
 rcases h with rfl | rfl | rfl | rfl | rfl | rfl | rfl | rfl
 ·exact ⟨.int _,.inl ⟨0,rfl,by decide,by decide⟩⟩
 ·exact ⟨.int _,.inl ⟨1,rfl,by decide,by decide⟩⟩
 ·exact ⟨.int _,.inl ⟨100000,rfl,by decide,by decide⟩⟩
 ·exact ⟨.int _,.inr (by decide)⟩
 ·exact ⟨.int _,.inr (by decide)⟩
 ·exact ⟨.bl _,.inr rfl⟩
 ·exact ⟨.non,.inr rfl⟩
 ·exact ⟨.str _ (by decide),.inr rfl⟩
section
variable {f:Addr} {cdv:Value} {A:Around} {outer:List Env} {s:Shared} {H0:Hp} {E:XK} {a:Addr} {ns:List Int} {CM c1 c2 c3 c4 c5 c6 c7 c8:Addr}
def TH (H:Hp) (tt:Addr) (g:Bool):Prop:=(g=true∧∃y,H tt=some (.tup [.str "found",y]))∨(g=false∧H tt=some (.tup [.str "refused",.int 2]))
def I11:L2.St→Hp→Prop:=fun σ H=>∃x0 x1 x2 x3 x4 x5 x6 x7 st x9 tt,σ=[x0,x1,x2,x3,x4,x5,x6,x7,some st,x9,some (.ref tt),none]∧st∈J8∧TH H tt (qg st 0 100000)
def I12:L2.St→Hp→Prop:=fun σ H=>∃x0 x1 x2 x3 x4 x5 x6 x7 x8 x9 tt g,σ=[x0,x1,x2,x3,x4,x5,x6,x7,x8,x9,some (.ref tt),some (.bl g)]∧TH H tt g
theorem ls11 (hr:Room 15 (XL P w K mg base f cdv A outer s H0 E).A) (e3:Err1 K CM c1 c2 c3 c4 c5 c6 c7 c8 c3 2) (FT:FN P w K mg base 15 "_law_told" ["_law_way","_law_some"] (SpT P w K CM c1 c2 c3 c4 c5 c6 c7 c8)):
  PS (XL P w K mg base f cdv A outer s H0 E) (lq 11) (HT (I10 P w K a ns) I11):=by
 refine PS.imp (zx (i:=10) jN.nd rfl (Or.inl rfl) (zu FT hr rfl (z6 zh (z6 (zB (z6 (pv 2) (z6 z0P (z6 (pv 8) z8)))) z8)))) ?_
 rintro D σ H ⟨⟨t,l,b,od,v,nm,th,st,x9,x10,rfl,L,hng,hst⟩,q⟩
 refine ⟨_,rfl,fun d hd=>?_⟩
 have s1:=zg hd (.dK [])
 refine ⟨_,rfl,by show 3≤sizeLine;decide,fun p hp=>?_⟩
 have s2:=zg hp (.tup [.ref l,.ref d,st])
 have hG:=L.good.same (Zz.trans (s1.trans s2))
 have hd2:upd (upd H d (.dK [])) p (.tup [.ref l,.ref d,st]) d=some (.dK []):=s2 _ _ z7
 obtain ⟨hs,hw⟩:=z0F hst
 rcases hw with ⟨n,rfl,hn,hw⟩ | hw
 ·exact z7L z7 hG hd2 hn fun y tt H3 s3 ht=>q _ _ ⟨_,_,_,_,_,_,_,_,_,_,tt,rfl,hst,.inl ⟨hw,y,ht⟩⟩
 ·have hTh:ji (upd (upd H d (.dK [])) p (.tup [.ref l,.ref d,st])) (.ref d) true:=ji.dct (kvs:=[]) hd2 (by decide) fun p hp=>by cases hp
  exact z6x e3 z7 hG hTh hs hw fun tt H3 s3 ht=>q _ _ ⟨_,_,_,_,_,_,_,_,_,_,tt,rfl,hst,.inr ⟨hw,ht⟩⟩
theorem ls12 (hr:Room 15 (XL P w K mg base f cdv A outer s H0 E).A) (FW:FN P w K mg base 1 "_law_whole" ["_law_thing"] spWh):PS (XL P w K mg base f cdv A outer s H0 E) (lq 12) (HT I11 I12):=by
 refine PS.imp (zx (i:=11) jN.nd rfl (Or.inl rfl) (qj (zu FW (hr.mono (by decide)) rfl (z6 (pv 8) z8)) (qm (jI Zh Zh zh (pv 8) zh)))) ?_
 rintro D σ H ⟨⟨x0,x1,x2,x3,x4,x5,x6,x7,st,x9,tt,rfl,hst,hT⟩,q⟩
 obtain ⟨hs,hw⟩:=z0F hst
 have fin:∀g,g=qg st 0 100000→D.nx [x0,x1,x2,x3,x4,x5,x6,x7,some st,x9,some (.ref tt),some (.bl g)] H:=fun g hg=>q _ _ ⟨x0,x1,x2,x3,x4,x5,x6,x7,some st,x9,tt,g,rfl,by rw [hg];exact hT⟩
 refine ⟨_,rfl,st,rfl,.inl hs,_,rfl,?_⟩
 cases hs with
 | non=>exact iteF (fin _ rfl)
 | bl b=>exact iteF (fin _ rfl)
 | str z hz=>exact iteF (fin _ rfl)
 | int i=>
  refine iteT ⟨_,rfl,_,_,rfl,rfl,_,rfl,?_⟩
  have e:qg (.int i) 0 100000=(decide ((0:Int)≤i)&&decide (i≤100000)):=rfl
  refine ite2 (fun c=>?_) (fun c=>?_)
  ·exact ⟨_,_,rfl,rfl,fin _ (by rw [e,c,Bool.true_and])⟩
  ·exact fin _ (by rw [e,Bool.eq_false_iff.mpr c,Bool.false_and])
def TEnd:TS:=fun D σ H=>I12 σ H∧∀H',D.rt (.bl true) H'
theorem ls13 (hr:Room 15 (XL P w K mg base f cdv A outer s H0 E).A) (FR:FN P w K mg base 1 "_law_refused" ["_law_word_here"] z3B):PS (XL P w K mg base f cdv A outer s H0 E) (lq 13) TEnd:=by
 have hr1:=hr.mono (show 1≤15 by decide)
 have hu3:(XL P w K mg base f cdv A outer s H0 E).A.units+3 < cLine:=by have:=hr.un;lia
 refine PS.imp (zk (qj (qi qC (qi qC (zS qp (pv 10) zh (fun _ _=>rfl)) zo (zt _)) (pv 11) (zt _)) (qm (z3P (pv 11) (qm (qi (z5x hu3) (pv 10) (zu FR hr1 rfl (z6 zo z8)) (zt _))))))) ?_
 rintro D σ H ⟨⟨x0,x1,x2,x3,x4,x5,x6,x7,x8,x9,tt,g,rfl,hT⟩,q⟩
 rcases hT with ⟨rfl,y,ht⟩ | ⟨rfl,ht⟩
 ·refine ⟨_,rfl,tt,_,_,_,rfl,rfl,SqT.of ht,zr (j:=0) rfl,rfl,_,rfl,rfl,_,rfl,iteT ?_⟩
  exact ⟨_,rfl,_,rfl,iteT (q H)⟩
 ·refine ⟨_,rfl,tt,_,_,_,rfl,rfl,SqT.of ht,zr (j:=0) rfl,rfl,_,rfl,rfl,_,rfl,iteT ?_⟩
  refine ⟨_,rfl,_,rfl,iteF ⟨_,rfl,"number",2,rfl,.inr (.inl ⟨rfl,rfl⟩),fun t3 H3 s3 ht3=>?_⟩⟩
  exact ⟨.ref (SqT.of (s3 _ _ ht)) (SqT.of ht3),q H3⟩
def z3C (K:ky):Sp:=fun vs H Q _=>∃(a:Addr) (ns:List Int),vs=[.ref a]∧Scr K H a (ns.map V.int)∧ns.length≤63∧∀H',Q (.bl true) H'
theorem z7C {f:Addr} {fd:FuncData} (D:Fun K "law" "law" (top 116) f fd) (G:Glo mg) (e2:Err1 K CM c1 c2 c3 c4 c5 c6 c7 c8 c2 1) (e3:Err1 K CM c1 c2 c3 c4 c5 c6 c7 c8 c3 2) (e4:Err1 K CM c1 c2 c3 c4 c5 c6 c7 c8 c4 3)
  (FTn:FN P w K mg base 1 "_law_town" ["_law_script"] (z1U K)) (FD:FN P w K mg base 1 "_law_draw" ["_law_script","_law_town_here","_law_many"] (Jc K)) (FP:FN P w K mg base 2 "_law_pick" ["_law_script","_law_town_here","_law_some"] (jU K))
  (FT:FN P w K mg base 15 "_law_told" ["_law_way","_law_some"] (SpT P w K CM c1 c2 c3 c4 c5 c6 c7 c8)) (FR:FN P w K mg base 1 "_law_refused" ["_law_word_here"] z3B) (FG:FN P w K mg base 3 "_law_names_good" ["_law_thing"] spNG) (FN1:FN P w K mg base 3 "_law_names_good" ["_law_thing"] (z5g P w)) (FW:FN P w K mg base 1 "_law_whole" ["_law_thing"] spWh):
  FnOk P w K mg base CX0 16 f fd ["_law_script"] (z3C K):=by
 refine D.ok jN (fun vs H Q E h=>by obtain ⟨a,ns,rfl,_⟩:=h;rfl) (fun cdv A outer s H vs Q E hr h=>?_)
 obtain ⟨a,ns,rfl,hS,hns,q⟩:=h
 have hr3:=hr.mono (show 3≤15 by decide)
 have h0:=ls0 (P:=P) (w:=w) (K:=K) (mg:=mg) (base:=base) (f:=f) (cdv:=cdv) (A:=A) (outer:=outer) (s:=s) (H0:=H) (E:=E) (a:=a) (ns:=ns) hr3 FTn
 have h1:=ls1 (P:=P) (w:=w) (K:=K) (mg:=mg) (base:=base) (f:=f) (cdv:=cdv) (A:=A) (outer:=outer) (s:=s) (H0:=H) (E:=E) (a:=a) (ns:=ns)
 have h2:=ls2 (P:=P) (w:=w) (K:=K) (mg:=mg) (base:=base) (f:=f) (cdv:=cdv) (A:=A) (outer:=outer) (s:=s) (H0:=H) (E:=E) (a:=a) (ns:=ns) hr3 FP
 have h3:=ls3 (P:=P) (w:=w) (K:=K) (mg:=mg) (base:=base) (f:=f) (cdv:=cdv) (A:=A) (outer:=outer) (s:=s) (H0:=H) (E:=E) (a:=a) (ns:=ns) hr3 FP
 have h4:=ls4 (P:=P) (w:=w) (K:=K) (mg:=mg) (base:=base) (f:=f) (cdv:=cdv) (A:=A) (outer:=outer) (s:=s) (H0:=H) (E:=E) (a:=a) (ns:=ns)
 have h5:=ls5 (P:=P) (w:=w) (K:=K) (mg:=mg) (base:=base) (f:=f) (cdv:=cdv) (A:=A) (outer:=outer) (s:=s) (H0:=H) (E:=E) (a:=a) (ns:=ns) hr3 FP
 have h6:=ls6 (P:=P) (w:=w) (K:=K) (mg:=mg) (base:=base) (f:=f) (cdv:=cdv) (A:=A) (outer:=outer) (s:=s) (H0:=H) (E:=E) (a:=a) (ns:=ns)
 have h7:=ls7 (P:=P) (w:=w) (K:=K) (mg:=mg) (base:=base) (f:=f) (cdv:=cdv) (A:=A) (outer:=outer) (s:=s) (H0:=H) (E:=E) (a:=a) (ns:=ns) hr3 G FD FP
 have h8:=ls8 (P:=P) (w:=w) (K:=K) (mg:=mg) (base:=base) (f:=f) (cdv:=cdv) (A:=A) (outer:=outer) (s:=s) (H0:=H) (E:=E) (a:=a) (ns:=ns) hr3 FP
 have h9:=ls9 (P:=P) (w:=w) (K:=K) (mg:=mg) (base:=base) (f:=f) (cdv:=cdv) (A:=A) (outer:=outer) (s:=s) (H0:=H) (E:=E) (a:=a) (ns:=ns) hr3 FP
 have h10:=ls10 (f:=f) (cdv:=cdv) (A:=A) (outer:=outer) (s:=s) (H0:=H) (E:=E) (a:=a) (ns:=ns) hr G e2 e3 e4 FT FR FG FN1
 have h11:=ls11 (f:=f) (cdv:=cdv) (A:=A) (outer:=outer) (s:=s) (H0:=H) (E:=E) (a:=a) (ns:=ns) hr e3 FT
 have h12:=ls12 (P:=P) (w:=w) (K:=K) (mg:=mg) (base:=base) (f:=f) (cdv:=cdv) (A:=A) (outer:=outer) (s:=s) (H0:=H) (E:=E) hr FW
 have h13:=ls13 (P:=P) (w:=w) (K:=K) (mg:=mg) (base:=base) (f:=f) (cdv:=cdv) (A:=A) (outer:=outer) (s:=s) (H0:=H) (E:=E) hr FR
 have ss:PSs (XL P w K mg base f cdv A outer s H E) [lq 0,lq 1,lq 2,lq 3,lq 4,lq 5,lq 6,lq 7,lq 8,lq 9,lq 10,lq 11,lq 12,lq 13] _:=zb h0 (zb h1 (zb h2 (zb h3 (zb h4 (zb h5 (zb h6 (zb h7 (zb h8 (zb h9 (zb h10 (zb h11 (zb h12 (zf h13)))))))))))))
 have eb:zE (top 116)=[lq 0,lq 1,lq 2,lq 3,lq 4,lq 5,lq 6,lq 7,lq 8,lq 9,lq 10,lq 11,lq 12,lq 13]:=by rfl
 refine ⟨_,by rw [eb];exact ss,?_⟩
 refine ⟨⟨rfl,hS,hns⟩,fun σ1 H1 i1=>⟨i1,fun σ2 H2 i2=>⟨i2,fun σ3 H3 i3=>⟨i3,fun σ4 H4 i4=>⟨i4,fun σ5 H5 i5=>⟨i5,fun σ6 H6 i6=>⟨i6,fun σ7 H7 i7=>⟨i7,fun σ8 H8 i8=>⟨i8,fun σ9 H9 i9=>⟨i9,fun σ10 H10 i10=>⟨i10,fun σ11 H11 i11=>⟨i11,fun σ12 H12 i12=>⟨i12,fun σ13 H13 i13=>⟨i13,fun H'=>q H'⟩⟩⟩⟩⟩⟩⟩⟩⟩⟩⟩⟩⟩⟩
end
section
structure Clss (K:ky) (mg:Str→Option Value) (CW CH:Addr):Prop where
 mW:mg "Walk"=some (.ref CW)
 mH:mg "Hold"=some (.ref CH)
 cW:ZD K CW
 cH:jd K CH
 iW:HasI K CW "Walk.__init__" (My.mW 0)
 iH:HasI K CH "Hold.__init__" (My.mH 0)
 m1:HasM K CW "come_to" "Walk.come_to" (My.mW 1)
 m2:HasM K CW "finish" "Walk.finish" (My.mW 2)
 m3:HasM K CW "take_fault" "Walk.take_fault" (My.mW 3)
 m4:HasM K CW "step" "Walk.step" (My.mW 4)
 m5:HasM K CW "place" "Walk.place" (My.mW 5)
 m9:HasM K CW "told" "Walk.told" (My.mW 9)
 m11:HasM K CW "end" "Walk.end" (My.mW 11)
 m12:HasM K CW "__len__" "Walk.__len__" (My.mW 12)
end
theorem z1b {P:Program} {w:World} {K:ky} {c2 c3 c4:Addr} {vs:List V} {H:Hp} {Q Q':VK} {E E':XK} (h:z1Z P w K c2 c3 c4 vs H Q E) (hq:∀v H,Q v H→Q' v H) (he:∀c n H,E c n H→E' c n H):z1Z P w K c2 c3 c4 vs H Q' E':=by
 obtain ⟨way,t,l,nm,st,e,ht,hw,h⟩:=h
 refine ⟨way,t,l,nm,st,e,ht,hw,?_⟩
 rcases h with ⟨a,b⟩ | ⟨a,b,c⟩ | ⟨a,b,c,d,e,f⟩ | ⟨a,b,c,d⟩ | ⟨a,b,c,d⟩
 ·exact .inl ⟨a,fun H' s=>he _ _ _ (b H' s)⟩
 ·exact .inr (.inl ⟨a,b,fun H' s=>he _ _ _ (c H' s)⟩)
 ·exact .inr (.inr (.inl ⟨a,b,c,d,e,fun H' s=>he _ _ _ (f H' s)⟩))
 ·exact .inr (.inr (.inr (.inl ⟨a,b,c,fun y H' s=>hq _ _ (d y H' s)⟩)))
 ·exact .inr (.inr (.inr (.inr ⟨a,b,c,fun ea H' s h=>hq _ _ (d ea H' s h)⟩)))
def LK (K:ky) (f:Addr) (x q:Str) (st:Stmt):Prop:=∃(oc:Value) (od an:Option Addr) (osl:Array (Option Value)) (kV doc pm cdv ct:Value),K.lookup f=some ⟨oc,od,.func (PySem.W.fnOf x q (qx st) (zE st) (zd st) .none kV doc pm an cdv ct),osl⟩∧PySem.W.codeIn K cdv q=true∧PySem.W.keepIn K (.ref f)=true
theorem lk_mk {K:ky} {f:Addr} {x q:Str} {st:Stmt} {oc:Value} {od an:Option Addr} {osl:Array (Option Value)} {kV doc pm cdv ct:Value} (l:K.lookup f=some ⟨oc,od,.func (PySem.W.fnOf x q (qx st) (zE st) (zd st) .none kV doc pm an cdv ct),osl⟩) (c:PySem.W.codeIn K cdv q=true) (k:PySem.W.keepIn K (.ref f)=true):LK K f x q st:=⟨_,_,_,_,_,_,_,_,_,l,c,k⟩
def HD (K:ky) (f:Addr) (x:Str) (n:Nat):Prop:=PySem.W.nsIn K mainGlobals x=some (some (.ref f))∧LK K f x x (top n)
theorem hdm {K:ky} {f:Addr} {x:Str} {n:Nat} {oc:Value} {od an:Option Addr} {osl:Array (Option Value)} {kV doc pm cdv ct:Value} (a:PySem.W.nsIn K mainGlobals x=some (some (.ref f))) (l:K.lookup f=some ⟨oc,od,.func (PySem.W.fnOf x x (qx (top n)) (zE (top n)) (zd (top n)) .none kV doc pm an cdv ct),osl⟩) (c:PySem.W.codeIn K cdv x=true) (k:PySem.W.keepIn K (.ref f)=true):HD K f x n:=⟨a,lk_mk l c k⟩
theorem z8q {K:ky} {h:Heap} {mg:Str→Option Value} {x:Str} {n:Nat} {f:Addr} (X:K.In h) (G:h.Ns mainGlobals mg) (l:HD K f x n):zm K mg x (top n):=by
 obtain ⟨a,_,_,_,_,_,_,_,_,_,l,c,k⟩:=l
 exact ⟨f,_,z0Z l c k,km X G a⟩
theorem JG {K:ky} {C:Addr} {x q:Str} {st:Stmt} (l:∃f,PySem.W.findIn K (.ref C) x=some (some (.ref f))∧PySem.W.isFn K (.ref f)=true∧LK K f x q st):HasM K C x q st:=by
 obtain ⟨f,a,i,_,_,_,_,_,_,_,_,_,l,c,k⟩:=l
 exact ⟨f,_,z0Z l c k,⟨a,i,k⟩⟩
theorem z7s {K:ky} {C:Addr} {q:Str} {st:Stmt} {f:Addr} (mk:PySem.W.makesIn K C=true) (a:PySem.W.findIn K (.ref C) "__init__"=some (some (.ref f))) (i:PySem.W.isFn K (.ref f)=true) (l:LK K f "__init__" q st) (kc:PySem.W.keepIn K (.ref C)=true):HasI K C q st:=by
 obtain ⟨_,_,_,_,_,_,_,_,_,l,c,k⟩:=l
 exact ⟨f,_,z0Z l c k,⟨mk,a,i,kc⟩⟩
def CN (K:ky) (x:Str) (i:Int):Prop:=∃u,PySem.W.nsIn K mainGlobals x=some (some u)∧RelV (.int i) u
theorem cnm {K:ky} {x:Str} {i:Int} {u:Value} (a:PySem.W.nsIn K mainGlobals x=some (some u)) (r:RelV (.int i) u):CN K x i:=⟨u,a,r⟩
theorem QZ {K:ky} {h:Heap} {mg:Str→Option Value} {x:Str} {i:Int} (X:K.In h) (G:h.Ns mainGlobals mg) (l:CN K x i):∃u,mg x=some u∧RelV (.int i) u:=l.elim fun u q=>⟨u,km X G q.1,q.2⟩
def KT (K:ky) (w:World) (x:Str) (tab:List (Str × V)):Prop:=∃a,PySem.W.nsIn K mainGlobals x=some (some (.ref a))∧KTab w.params K a tab
theorem ktm {K:ky} {w:World} {x:Str} {tab:List (Str × V)} {a:Addr} {e:Array DictEntry} {n:Nat} (h:PySem.W.nsIn K mainGlobals x=some (some (.ref a))) (l:K.lookup a=some ⟨.type "dict",none,.dict e n,#[]⟩) (k:PySem.W.KeysLit w.params e.toList) (m:(a == sysModules)=false)
  (p:Paired (fun (p:Str × V) (e:DictEntry)=>(∃t,e.key=.str p.1 t)∧RelV p.2 e.val) tab e.toList):KT K w x tab:=⟨a,h,e,n,l,k,m,p⟩
theorem ktg {K:ky} {w:World} {h:Heap} {mg:Str→Option Value} {x:Str} {tab:List (Str × V)} (X:K.In h) (G:h.Ns mainGlobals mg) (l:KT K w x tab):∃d,mg x=some (.ref d)∧KTab w.params K d tab:=l.elim fun d q=>⟨d,km X G q.1,q.2⟩
def KU (K:ky) (x:Str) (xs:List V):Prop:=∃a,PySem.W.nsIn K mainGlobals x=some (some (.ref a))∧KTup K a xs
def MD (K:ky) (C:Addr) (x q:Str) (st:Stmt):Prop:=∃f,PySem.W.findIn K (.ref C) x=some (some (.ref f))∧PySem.W.isFn K (.ref f)=true∧LK K f x q st
theorem mdm {K:ky} {C f:Addr} {x q:Str} {st:Stmt} (a:PySem.W.findIn K (.ref C) x=some (some (.ref f))) (i:PySem.W.isFn K (.ref f)=true) (l:LK K f x q st):MD K C x q st:=⟨f,a,i,l⟩
theorem z5D {K:ky} {a:Addr} {xs:List V} {o:Obj} {its:Array Value} {n:Nat} (l:K.lookup a=some o) (c:o.cls=.type "tuple") (d:o.data=.seq its n) (v:Vals xs its.toList) (z:xs.length≤1000):KTup K a xs:=
 ⟨o,its,n,l,c,d,by have h1:xs.length=its.toList.length:=v.length;have h2:its.toList.length=its.size:=Array.length_toList;exact Jf (by lia),v⟩
theorem kum {K:ky} {x:Str} {a:Addr} {xs:List V} {o:Obj} {its:Array Value} {n:Nat} (h:PySem.W.nsIn K mainGlobals x=some (some (.ref a))) (l:K.lookup a=some o) (c:o.cls=.type "tuple") (d:o.data=.seq its n) (v:Vals xs its.toList) (z:xs.length≤1000):KU K x xs:=⟨a,h,z5D l c d v z⟩
theorem kug {K:ky} {h:Heap} {mg:Str→Option Value} {x:Str} {xs:List V} (X:K.In h) (G:h.Ns mainGlobals mg) (l:KU K x xs):∃a,mg x=some (.ref a)∧KTup K a xs:=l.elim fun d q=>⟨d,km X G q.1,q.2⟩
theorem all_mk {l:PySem.W.OpenLaw} {w:World} {K:ky} {h:Heap} {mg:Str→Option Value} {fa CW CH gfirst CM c1 c2 c3 c4 c5 c6 c7 c8:Addr} (X:K.In h) (G:h.Ns mainGlobals mg) (hfa:mg "law"=some (.ref fa))
  {f18 f19 f20 f21 f22 f23 f24 f25 f26 f27 f28 f30 f31 f32 f33 f34 f35 f36 f37 f38 f48 f49 f50 f51 f52 f53 f54 f55 f56 f57 f58 f59 f62 f63 f64 f65 f66 f67 f68 f70 f71 f72 f80 f81 f82 f84 f85 f86 f87 f88 f89 f90 f91 f92 f93 f94 f95 f96 f97 f98 f99 f100 f102 f104 f106 f107 f108 f109 f110 f111 f112 f113 f114 f115 f116 fW0 fH0:Addr}
  {tfirst:Addr} {ofirst:Obj} {ifirst:Array Value} {nfirst:Nat}
{ogfirst:Obj} {igfirst:Array Value} {ngfirst:Nat}
  (l18:HD K f18 "is_number" 18)
  (l19:HD K f19 "is_number_within" 19)
  (l20:HD K f20 "is_letters" 20)
  (l21:HD K f21 "is_name" 21)
  (l22:HD K f22 "is_kind" 22)
  (l23:HD K f23 "is_mark" 23)
  (l24:HD K f24 "is_value_within" 24)
  (l25:HD K f25 "is_pushed" 25)
  (l26:HD K f26 "is_copied" 26)
  (l27:HD K f27 "is_swapped_with" 27)
  (l28:HD K f28 "is_none" 28)
  (l30:HD K f30 "is_op" 30)
  (l31:HD K f31 "arg_sort" 31)
  (l32:HD K f32 "arg_fits" 32)
  (l33:HD K f33 "is_row" 33)
  (l34:HD K f34 "label_places" 34)
  (l35:HD K f35 "mark_fits" 35)
  (l36:HD K f36 "first_bad_place" 36)
  (l37:HD K f37 "has_places" 37)
  (l38:HD K f38 "check_code" 38)
  (l48:HD K f48 "uppermost" 48)
  (l49:HD K f49 "depth_asked" 49)
  (l50:HD K f50 "lacks_values" 50)
  (l51:HD K f51 "lacks_guard" 51)
  (l52:HD K f52 "takes_beneath" 52)
  (l53:HD K f53 "moves" 53)
  (l54:HD K f54 "words_lacking" 54)
  (l55:HD K f55 "guards_behind" 55)
  (l56:HD K f56 "next_states" 56)
  (l57:HD K f57 "state_words" 57)
  (l58:HD K f58 "searched" 58)
  (l59:HD K f59 "states" 59)
  (l62:HD K f62 "is_true" 62)
  (l63:HD K f63 "are_same" 63)
  (l64:HD K f64 "sum_of" 64)
  (l65:HD K f65 "difference_of" 65)
  (l66:HD K f66 "product_of" 66)
  (l67:HD K f67 "quotient_of" 67)
  (l68:HD K f68 "rest_of" 68)
  (l70:HD K f70 "made_of_two" 70)
  (l71:HD K f71 "made_of_one" 71)
  (l72:HD K f72 "kind_raised" 72)
  (l80:HD K f80 "is_names" 80)
  (l81:HD K f81 "check_names" 81)
  (l82:HD K f82 "check_steps" 82)
  (l84:HD K f84 "do_push" 84)
  (l85:HD K f85 "do_load" 85)
  (l86:HD K f86 "do_quick" 86)
  (l87:HD K f87 "do_store" 87)
  (l88:HD K f88 "do_clear" 88)
  (l89:HD K f89 "do_drop" 89)
  (l90:HD K f90 "do_copy" 90)
  (l91:HD K f91 "do_swap" 91)
  (l92:HD K f92 "pushed_or_fault" 92)
  (l93:HD K f93 "do_two" 93)
  (l94:HD K f94 "do_one" 94)
  (l95:HD K f95 "do_tell" 95)
  (l96:HD K f96 "do_jump" 96)
  (l97:HD K f97 "do_if" 97)
  (l98:HD K f98 "do_or" 98)
  (l99:HD K f99 "do_return" 99)
  (l100:HD K f100 "do_raise" 100)
  (l102:HD K f102 "do_row" 102)
  (l104:HD K f104 "run" 104)
  (l106:HD K f106 "_law_town" 106)
  (l107:HD K f107 "_law_draw" 107)
  (l108:HD K f108 "_law_pick" 108)
  (l109:HD K f109 "_law_whole" 109)
  (l110:HD K f110 "_law_word" 110)
  (l111:HD K f111 "_law_refused" 111)
  (l112:HD K f112 "_law_told" 112)
  (l113:HD K f113 "_law_value_good" 113)
  (l114:HD K f114 "_law_one" 114)
  (l115:HD K f115 "_law_names_good" 115)
  (l116:HD K f116 "law" 116)
  (aCW:PySem.W.nsIn K mainGlobals "Walk"=some (some (.ref CW)))
  (pgCW:PySem.W.plainGet K CW Str.empty=true)
  (hdCW:PySem.W.hasDictIn K CW=true)
  (poCW:PySem.W.plainOver K CW=true)
  (saCW:PySem.W.findIn K (.ref CW) "__setattr__"=some (some (.builtin "object.__setattr__")))
  (mkCW:PySem.W.makesIn K CW=true)
  (kcCW:PySem.W.keepIn K (.ref CW)=true)
  (nCWrows:PySem.W.findIn K (.ref CW) "rows"=some none)
  (nCWgoals:PySem.W.findIn K (.ref CW) "goals"=some none)
  (nCWhold:PySem.W.findIn K (.ref CW) "hold"=some none)
  (nCWwards:PySem.W.findIn K (.ref CW) "wards"=some none)
  (nCWpassed:PySem.W.findIn K (.ref CW) "passed"=some none)
  (nCWending:PySem.W.findIn K (.ref CW) "ending"=some none)
  (nCWhere:PySem.W.findIn K (.ref CW) "here"=some none)
  (aCH:PySem.W.nsIn K mainGlobals "Hold"=some (some (.ref CH)))
  (pgCH:PySem.W.plainGet K CH Str.empty=true)
  (hdCH:PySem.W.hasDictIn K CH=true)
  (poCH:PySem.W.plainOver K CH=true)
  (saCH:PySem.W.findIn K (.ref CH) "__setattr__"=some (some (.builtin "object.__setattr__")))
  (mkCH:PySem.W.makesIn K CH=true)
  (kcCH:PySem.W.keepIn K (.ref CH)=true)
  (nCHheld:PySem.W.findIn K (.ref CH) "held"=some none)
  (nCHknown:PySem.W.findIn K (.ref CH) "known"=some none)
  (nCHsaid:PySem.W.findIn K (.ref CH) "said"=some none)
  (aW0:PySem.W.findIn K (.ref CW) "__init__"=some (some (.ref fW0)))
  (iW0:PySem.W.isFn K (.ref fW0)=true)
  (lW0:LK K fW0 "__init__" "Walk.__init__" (mW 0))
  (aH0:PySem.W.findIn K (.ref CH) "__init__"=some (some (.ref fH0)))
  (iH0:PySem.W.isFn K (.ref fH0)=true)
  (lH0:LK K fH0 "__init__" "Hold.__init__" (mH 0))
  (mm1:MD K CW "come_to" "Walk.come_to" (mW 1))
  (mm2:MD K CW "finish" "Walk.finish" (mW 2))
  (mm3:MD K CW "take_fault" "Walk.take_fault" (mW 3))
  (mm4:MD K CW "step" "Walk.step" (mW 4))
  (mm5:MD K CW "place" "Walk.place" (mW 5))
  (mm9:MD K CW "told" "Walk.told" (mW 9))
  (mm11:MD K CW "end" "Walk.end" (mW 11))
  (mm12:MD K CW "__len__" "Walk.__len__" (mW 12))
  (z_isinstance:PySem.W.nsIn K mainGlobals "isinstance"=some none)
  (z_int:PySem.W.nsIn K mainGlobals "int"=some none)
  (z_bool:PySem.W.nsIn K mainGlobals "bool"=some none)
  (z_str:PySem.W.nsIn K mainGlobals "str"=some none)
  (z_tuple:PySem.W.nsIn K mainGlobals "tuple"=some none)
  (z_list:PySem.W.nsIn K mainGlobals "list"=some none)
  (z_len:PySem.W.nsIn K mainGlobals "len"=some none)
  (z_range:PySem.W.nsIn K mainGlobals "range"=some none)
  (z_enumerate:PySem.W.nsIn K mainGlobals "enumerate"=some none)
  (z_all:PySem.W.nsIn K mainGlobals "all"=some none)
  (z_dict:PySem.W.nsIn K mainGlobals "dict"=some none)
  (z_max:PySem.W.nsIn K mainGlobals "max"=some none)
  (z_min:PySem.W.nsIn K mainGlobals "min"=some none)
  (z_abs:PySem.W.nsIn K mainGlobals "abs"=some none)
  (z_RuntimeError:PySem.W.nsIn K mainGlobals "RuntimeError"=some none)
  (q_rows:CN K "MOST_ROWS" 150)
  (q_line:CN K "MOST_LINE" 9999)
  (q_mark:CN K "MOST_MARK" 99)
  (q_pushed:CN K "MOST_PUSHED" 1000000000)
  (q_name:CN K "LONGEST_NAME" 4)
  (q_kind:CN K "LONGEST_KIND" 8)
  (q_made:CN K "MOST_MADE" 1000000000000000000)
  (q_names:CN K "MOST_NAMES" 8)
  (q_steps:CN K "MOST_STEPS" 100000)
  (ta_sorts:KT K w "ARG_SORTS" z26)
  (ta_tests:KT K w "ARG_TESTS" [("value",.ref f25),("name",.ref f21),("copied",.ref f26),("swapped",.ref f27),("mark",.ref f23),("none",.ref f28)])
  (ta_takes:KT K w "TAKES" (JF ZG))
  (ta_pushes:KT K w "PUSHES" (JF ZW))
  (ta_gput:KT K w "GUARDS_PUT" (JF jc))
  (ta_reck:KT K w "RECKONINGS" [("add",.ref f64),("sub",.ref f65),("mul",.ref f66),("div",.ref f67),("rest",.ref f68)])
  (ta_deeds:KT K w "DEEDS" (Z3 ⟨f84,f85,f86,f87,f88,f89,f90,f91,f93,f94,f95,f96,f97,f98,f99,f100⟩))
  (ua_jumping:KU K "JUMPING" (jumping.map V.str))
  (ua_leaving:KU K "LEAVING" (leaving.map V.str))
  (ua_never:KU K "NEVER_ON" (jA.map V.str))
  (ua_faulting:KU K "FAULTING" (faulting.map V.str))
  (ua_next:KU K "NEXT" [.str "next",.non])
  (ua_go:KU K "GO" [.str "go",.non])
  (ua_unset:KU K "UNSET" [.str "fault",.str "Unset"])
  (ua_on:KU K "ON" [.str "on"])
  (ua_first:PySem.W.nsIn K mainGlobals "FIRST_STATE"=some (some (.ref tfirst)))
  (ul_first:K.lookup tfirst=some ofirst)
  (uc_first:ofirst.cls=.type "tuple")
  (ud_first:ofirst.data=.seq ifirst nfirst)
  (uv_first:Vals [.int 0,.ref gfirst] ifirst.toList)
  (ul_gfirst:K.lookup gfirst=some ogfirst)
  (uc_gfirst:ogfirst.cls=.type "tuple")
  (ud_gfirst:ogfirst.data=.seq igfirst ngfirst)
  (uv_gfirst:Vals [] igfirst.toList)
  (eM:PySem.W.nsIn K mainGlobals "MillError"=some (some (.ref CM)))
  (e1:PySem.W.nsIn K mainGlobals "BadCode"=some (some (.ref c1)))
  (e2:PySem.W.nsIn K mainGlobals "BadNames"=some (some (.ref c2)))
  (e3:PySem.W.nsIn K mainGlobals "BadNumber"=some (some (.ref c3)))
  (e4:PySem.W.nsIn K mainGlobals "Unsound"=some (some (.ref c4)))
  (e5:PySem.W.nsIn K mainGlobals "BadOrder"=some (some (.ref c5)))
  (e6:PySem.W.nsIn K mainGlobals "BadText"=some (some (.ref c6)))
  (e7:PySem.W.nsIn K mainGlobals "BadUnits"=some (some (.ref c7)))
  (e8:PySem.W.nsIn K mainGlobals "BadBytes"=some (some (.ref c8)))
  (xM:PySem.W.excIn K CM ([.type "RuntimeError",.type "Exception",.type "BaseException",.type "object"]:List Value) "RuntimeError.__new__"=true)
  (x2:PySem.W.excIn K c2 ([.type "RuntimeError",.type "Exception",.type "BaseException",.type "object"]:List Value) "RuntimeError.__new__"=true)
  (u2:upIn K c2 CM=true)
  (d21:(c1 == c2)=false)
  (v21:upIn K c2 c1=false)
  (d23:(c3 == c2)=false)
  (v23:upIn K c2 c3=false)
  (d24:(c4 == c2)=false)
  (v24:upIn K c2 c4=false)
  (d25:(c5 == c2)=false)
  (v25:upIn K c2 c5=false)
  (d26:(c6 == c2)=false)
  (v26:upIn K c2 c6=false)
  (d27:(c7 == c2)=false)
  (v27:upIn K c2 c7=false)
  (d28:(c8 == c2)=false)
  (v28:upIn K c2 c8=false)
  (x3:PySem.W.excIn K c3 ([.type "RuntimeError",.type "Exception",.type "BaseException",.type "object"]:List Value) "RuntimeError.__new__"=true)
  (u3:upIn K c3 CM=true)
  (d31:(c1 == c3)=false)
  (v31:upIn K c3 c1=false)
  (d32:(c2 == c3)=false)
  (v32:upIn K c3 c2=false)
  (d34:(c4 == c3)=false)
  (v34:upIn K c3 c4=false)
  (d35:(c5 == c3)=false)
  (v35:upIn K c3 c5=false)
  (d36:(c6 == c3)=false)
  (v36:upIn K c3 c6=false)
  (d37:(c7 == c3)=false)
  (v37:upIn K c3 c7=false)
  (d38:(c8 == c3)=false)
  (v38:upIn K c3 c8=false)
  (x4:PySem.W.excIn K c4 ([.type "RuntimeError",.type "Exception",.type "BaseException",.type "object"]:List Value) "RuntimeError.__new__"=true)
  (u4:upIn K c4 CM=true)
  (d41:(c1 == c4)=false)
  (v41:upIn K c4 c1=false)
  (d42:(c2 == c4)=false)
  (v42:upIn K c4 c2=false)
  (d43:(c3 == c4)=false)
  (v43:upIn K c4 c3=false)
  (d45:(c5 == c4)=false)
  (v45:upIn K c4 c5=false)
  (d46:(c6 == c4)=false)
  (v46:upIn K c4 c6=false)
  (d47:(c7 == c4)=false)
  (v47:upIn K c4 c7=false)
  (d48:(c8 == c4)=false)
  (v48:upIn K c4 c8=false)
  (s1:ZC K c1=true)
  (s2:ZC K c2=true)
  (s3:ZC K c3=true)
  (s4:ZC K c4=true)
  (s5:ZC K c5=true)
  (s6:ZC K c6=true)
  (s7:ZC K c7=true)
  (s8:ZC K c8=true)
  (y2:excQ K c2 rtM "RuntimeError.__new__"=true)
  (y3:excQ K c3 rtM "RuntimeError.__new__"=true)
  (y4:excQ K c4 rtM "RuntimeError.__new__"=true)
  :∃fd:FuncData,(∀(s:Shared) (v:Value),BindsTo s fd ⟨[v],[]⟩ [("_law_script",v)])∧∀base:Heap,K.In base→base.Ns mainGlobals mg→FnOk l.prog w K mg base CX0 16 fa fd ["_law_script"] (z3C K):=by
 have e:=hfa.symm.trans (km X G l116.1)
 cases e
 have D {f:Addr} {x:Str} {n:Nat} (l:HD K f x n):zm K mg x (top n):=z8q X G l
 have GG:Glo mg:=⟨PySem.W.mg_none_of X G z_isinstance,PySem.W.mg_none_of X G z_int,PySem.W.mg_none_of X G z_bool,PySem.W.mg_none_of X G z_str,PySem.W.mg_none_of X G z_tuple,PySem.W.mg_none_of X G z_list,PySem.W.mg_none_of X G z_len,PySem.W.mg_none_of X G z_range,PySem.W.mg_none_of X G z_enumerate,QZ X G q_rows,QZ X G q_line,QZ X G q_mark,QZ X G q_pushed,QZ X G q_name,QZ X G q_kind,PySem.W.mg_none_of X G z_all,PySem.W.mg_none_of X G z_dict,PySem.W.mg_none_of X G z_max,PySem.W.mg_none_of X G z_min,PySem.W.mg_none_of X G z_abs,QZ X G q_made,QZ X G q_names,QZ X G q_steps⟩
 obtain ⟨dtests,mtests,ktests⟩:=ktg X G ta_tests
 obtain ⟨dreck,mreck,kreck⟩:=ktg X G ta_reck
 have ER:Errs K mg CM c1 c2 c3 c4 c5 c6 c7 c8:=⟨PySem.W.mg_none_of X G z_RuntimeError,km X G eM,km X G e1,km X G e2,km X G e3,km X G e4,km X G e5,km X G e6,km X G e7,km X G e8,xM⟩
 have E2:Err1 K CM c1 c2 c3 c4 c5 c6 c7 c8 c2 1:=⟨x2,y2,u2,true,false,false,.inl ⟨rfl,rfl,rfl,rfl⟩,.inr ⟨beq_eq_false_iff_ne.mp d21,s1,v21,rfl⟩,.inl ⟨rfl,rfl⟩,.inr ⟨beq_eq_false_iff_ne.mp d23,s3,v23,rfl⟩,.inr ⟨beq_eq_false_iff_ne.mp d24,s4,v24,rfl⟩,.inr ⟨beq_eq_false_iff_ne.mp d25,s5,v25,rfl⟩,.inr ⟨beq_eq_false_iff_ne.mp d26,s6,v26,rfl⟩,.inr ⟨beq_eq_false_iff_ne.mp d27,s7,v27,rfl⟩,.inr ⟨beq_eq_false_iff_ne.mp d28,s8,v28,rfl⟩⟩
 have E3:Err1 K CM c1 c2 c3 c4 c5 c6 c7 c8 c3 2:=⟨x3,y3,u3,false,true,false,.inr (.inl ⟨rfl,rfl,rfl,rfl⟩),.inr ⟨beq_eq_false_iff_ne.mp d31,s1,v31,rfl⟩,.inr ⟨beq_eq_false_iff_ne.mp d32,s2,v32,rfl⟩,.inl ⟨rfl,rfl⟩,.inr ⟨beq_eq_false_iff_ne.mp d34,s4,v34,rfl⟩,.inr ⟨beq_eq_false_iff_ne.mp d35,s5,v35,rfl⟩,.inr ⟨beq_eq_false_iff_ne.mp d36,s6,v36,rfl⟩,.inr ⟨beq_eq_false_iff_ne.mp d37,s7,v37,rfl⟩,.inr ⟨beq_eq_false_iff_ne.mp d38,s8,v38,rfl⟩⟩
 have E4:Err1 K CM c1 c2 c3 c4 c5 c6 c7 c8 c4 3:=⟨x4,y4,u4,false,false,true,.inr (.inr ⟨rfl,rfl,rfl,rfl⟩),.inr ⟨beq_eq_false_iff_ne.mp d41,s1,v41,rfl⟩,.inr ⟨beq_eq_false_iff_ne.mp d42,s2,v42,rfl⟩,.inr ⟨beq_eq_false_iff_ne.mp d43,s3,v43,rfl⟩,.inl ⟨rfl,rfl⟩,.inr ⟨beq_eq_false_iff_ne.mp d45,s5,v45,rfl⟩,.inr ⟨beq_eq_false_iff_ne.mp d46,s6,v46,rfl⟩,.inr ⟨beq_eq_false_iff_ne.mp d47,s7,v47,rfl⟩,.inr ⟨beq_eq_false_iff_ne.mp d48,s8,v48,rfl⟩⟩
 have TT:Tabs w K mg:=⟨ktg X G ta_sorts,⟨dtests,f25,f21,f26,f27,f23,f28,mtests,ktests,km X G l25.1,km X G l21.1,km X G l26.1,km X G l27.1,km X G l23.1,km X G l28.1⟩⟩
 have T2:z3r w K mg:=⟨ktg X G ta_takes,ktg X G ta_pushes,ktg X G ta_gput,kug X G ua_jumping,kug X G ua_leaving,kug X G ua_never,kug X G ua_faulting,⟨tfirst,gfirst,km X G ua_first,z5D ul_first uc_first ud_first uv_first (by show 2≤1000;decide),z5D ul_gfirst uc_gfirst ud_gfirst uv_gfirst (by decide)⟩⟩
 have T3:z7I w K mg ⟨f84,f85,f86,f87,f88,f89,f90,f91,f93,f94,f95,f96,f97,f98,f99,f100⟩:=⟨ktg X G ta_deeds,km X G l84.1,km X G l85.1,km X G l86.1,km X G l87.1,km X G l88.1,km X G l95.1,km X G l97.1,km X G l98.1,km X G l99.1,km X G l93.1,km X G l94.1,km X G l96.1,km X G l89.1,km X G l90.1,km X G l91.1,km X G l100.1⟩
 have TR:TabR w K mg:=⟨dreck,f64,f65,f66,f67,f68,mreck,kreck,km X G l64.1,km X G l65.1,km X G l66.1,km X G l67.1,km X G l68.1⟩
 have CC:Cons K mg:=⟨kug X G ua_next,kug X G ua_go,kug X G ua_unset,kug X G ua_on⟩
 have CL:Clss K mg CW CH:=⟨km X G aCW,km X G aCH,⟨⟨pgCW,hdCW,poCW,saCW⟩,nCWrows,nCWgoals,nCWhold,nCWwards,nCWpassed,nCWending,nCWhere⟩,⟨⟨pgCH,hdCH,poCH,saCH⟩,nCHheld,nCHknown,nCHsaid⟩,z7s mkCW aW0 iW0 lW0 kcCW,z7s mkCH aH0 iH0 lH0 kcCH,JG mm1,JG mm2,JG mm3,JG mm4,JG mm5,JG mm9,JG mm11,JG mm12⟩
 obtain ⟨_,_,_,an,_,kV,dc,pm,cd,ct,lk,c,k⟩:=l116
 refine ⟨PySem.W.fnOf "law" "law" (qx (top 116)) (zE (top 116)) (zd (top 116)) .none kV dc pm an cd ct,fun s v=>.of_eq rfl,fun base _ _=>?_⟩
 have nF {x:Str} {ps:List Str} {sp:Sp} {k:Nat} (F:FN l.prog w K mg base k x ps sp):=F
 have nM {C:Addr} {x:Str} {ps:List Str} {sp:Sp} {k:Nat} (F:MN l.prog w K mg base k C x ps sp):=F
 have nI {C:Addr} {ps:List Str} {sp:Sp} {k:Nat} (F:IN l.prog w K mg base k C ps sp):=F
 have num:=nF (JP (D l18) GG)
 have qg:=z2Z (D l19) GG num
 have jB:=nF (z1y (D l20) GG)
 have name:=z62 (D l21) GG jB
 have kind:=z67 (D l22) GG jB
 have mark:=z63 (D l23) GG qg
 have value:=z4j (D l24) GG qg kind
 have pushed:=z34 (D l25) GG value
 have copied:=z38 (D l26) qg
 have swapped:=z1w (D l27) qg
 have none:=nF (z60 (D l28))
 have op:=nF (z8z (D l30) GG TT)
 have sort:=nF (z5P (D l31) TT)
 have fits:=z69 (D l32) TT sort pushed name copied swapped mark none
 have row:=z7x (D l33) GG op fits qg
 have labs:=z66 (D l34) GG row
 have mfits:=JO (D l35) sort
 have bad:=z7E (D l36) GG row labs mfits
 have has:=nF (z7D (D l37) GG)
 have check:=z4y (D l38) has bad
 have up:=up2 (nF (z8w (D l48)))
 have asked:=nF (z4z (D l49) T2)
 have lackV:=z4r (D l50) asked
 have Jv:=nF (z4s (D l51))
 have Qa:=z1z (D l52) GG asked
 have moves:=z4o (D l53) T2 lackV Jv
 have words:=z4i (D l54) GG lackV Jv Qa moves
 have gb:=nF (z8C (D l55))
 have next:=z61 (D l56) up moves gb
 have sw:=z8x (D l57) up words
 have searched:=z0p (D l58) GG T2 labs sw next
 have states:=z31 (D l59) check searched
 have tru:=nF (z5K (D l62) GG)
 have names:=z4n (D l80) GG name value
 have chkn:=z6f (D l81) names
 have chks:=z6e (D l82) GG qg
 have push:=nF (z5V (D l84) CL.cH CC)
 have load:=nF (z65 (D l85) CL.cH CC)
 have quick:=nF (z4m (D l86) CL.cH CC)
 have store:=nF (z4k (D l87) CL.cH CC)
 have clear:=nF (z4v (D l88) CL.cH CC)
 have drop:=nF (z6a (D l89) CL.cH CC)
 have copy:=nF (z6d (D l90) CL.cH CC)
 have swap:=nF (z5O (D l91) CL.cH CC)
 have tell:=nF (z5N (D l95) CL.cH CC)
 have ifs:=z8B (D l97) CL.cH CC tru
 have ors:=z8y (D l98) CL.cH CC tru
 have ret:=nF (z33 (D l99) CL.cH)
 have kr:=z4t (D l72) kind
 have rais:=z4l (D l100) CL.cH kr
 have same:=nF (z5Q (D l63) GG)
 have sum:=nF (z7v (D l64))
 have diff:=nF (z6c (D l65))
 have prod:=nF (z5W (D l66))
 have quot:=nF (z5U (D l67))
 have rest:=nF (z5S (D l68))
 have Qg:=z4p (D l70) num same GG TR sum diff prod quot rest
 have z1o:=z4q (D l71) num tru
 have pof:=nF (z7y (D l92) CL.cH CC)
 have two:=z7u (D l93) CL.cH Qg pof
 have one:=z7z (D l94) CL.cH z1o pof
 have jump:=nF (z68 (C:=CH) (D l96) CC)
 have dorow:=z4u (D l102) T3 push load quick store clear tell ifs ors ret two one jump drop copy swap rais
 have ihold:=nI (z5H CL.iH CL.cH GG)
 have come:=nM (z7h CL.m1 CL.cW CL.cH GG)
 have fin:=nM (z8k (CH:=CH) CL.m2 CL.cW)
 have take:=z7f CL.m3 CL.cW CL.cH fin come
 have step:=z7g CL.m4 CL.cW fin take come dorow
 have place:=nM (z5A (CH:=CH) CL.m5 CL.cW)
 have told:=nM (z7e CL.m9 CL.cW CL.cH GG)
 have end_:=nM (z8l (CH:=CH) CL.m11 CL.cW)
 have len:=nM (z8j (CH:=CH) CL.m12 CL.cW GG)
 have iwalk:=z5G CL.iW CL.cW GG CC CL.mH states chkn labs ihold come
 have run:=z7w (D l104) CL.cW GG CL.mW iwalk chks place len step end_ told
 have town:=nF (z5L (D l106) GG)
 have draw:=nF (z6b (D l107) GG)
 have pick:=z5X (D l108) GG draw
 have whole:=nF (z8u (D l109) GG)
 have numR:=nF (z5Z (D l18) GG)
 have withinR:=z1v (D l19) numR
 have lettersR:=nF (z0q (D l20) GG)
 have kindR1:=z37 (D l22) GG lettersR
 have valueR:=z30 (D l24) GG withinR kindR1
 have namesX:=z35 (D l80) GG name value valueR
 have namesN:=z36 (D l80) GG name value valueR
 have chkX:=z4x (D l81) ER.n2 x2 namesX namesN
 have searchedB:=JN (D l58) GG T2 labs sw
 have statesB:=z1x (D l59) ER.n4 x4 check searchedB
 have IB:=z48 CL.iW statesB
 have IN1:=z47 (fun H H' x h s=>NB.same H H' x h s) CL.iW states chkX
 have chksB:=z4w (D l82) GG ER.n3 x3 qg
 have runB:=z32 (sp:=QF c4) (fun _ _ _ _ _ h _=>h) (D l104) CL.mW IB
 have runN:=z32 (sp:=QE K (NB l.prog w) c2) (fun _ _ _ _ _ h _=>h) (D l104) CL.mW IN1
 have runS:=z5R (D l104) CL.mW iwalk chksB
 have lone:=z64 (D l114) CL.cW CL.mW run runB runN runS iwalk IB IN1 end_
 have word:=nF (z5J (D l110) GG ER)
 have refd:=nF (z5T (D l111))
 have ltold:=z5M (sp:=z1Z l.prog w K c2 c3 c4) (fun _ _ _ _ _ _ h a b=>z1b h a b) (D l112) ER (show 1≤14 by decide) lone word
 have vg:=z8v (D l113) GG whole
 have ng:=z8A (D l115) GG vg
 have ngN:=nF (z7A (D l115) GG)
 exact z7C (z0Z (st:=top 116) lk c k) GG E2 E3 E4 town draw pick ltold refd ng ngN whole
theorem z6Q {K:ky} {H:Hp} {a:Addr} {xs:List V} (hO:Only H) (h:SqL K H a xs):Scr K H a xs:=by
 rcases h with h | h
 ·rcases h with h | ⟨o,h⟩
  ·rcases hO a with z | ⟨o,ys,z⟩
   ·rw [z] at h;cases h
   ·rw [z] at h;cases h
  ·exact .inl ⟨o,h⟩
 ·exact .inr h
theorem walk {l:PySem.W.OpenLaw} {q:Program} {loose:List Str} {XP:(Str→Option Value)→Heap→Prop} {YP:World→Heap→Prop} {d:DefRec} {K:Params→ky} (hn:l.most=some 63) (hdf:d.params.defaults=[])
  (hY:∀(w:World) (h:Heap),YP w h→(K w.params).In h)
  (F:∀(w:World) (mg:Str→Option Value) (fa:Addr) (h:Heap),(K w.params).In h→h.Ns mainGlobals mg→mg d.name=some (.ref fa)→
   ∃fd:FuncData,(∀(s:Shared) (u:Value),BindsTo s fd ⟨[u],[]⟩ [("_law_script",u)])∧∀base:Heap,(K w.params).In base→base.Ns mainGlobals mg→FnOk l.prog w (K w.params) mg base CX0 16 fa fd ["_law_script"] (z3C (K w.params))):
  PySem.W.WalkO q loose XP YP l.row.toRowW d [] (fun f vs=>PySem.call f vs):=
 L2.z56 (n:=63) (k:=16) (x:="_law_script") (CX:=fun _=>CX0) (sp:=fun w=>z3C (K w.params)) hn (by decide) hdf ⟨rfl,by decide,by decide,rfl⟩ hY F (fun _ _ a ns hl hO hS=>⟨a,ns,rfl,z6Q hO hS,hl,fun _=>rfl⟩) fun _ _ _ _ _ z=>z
end My
namespace PySem.W.Fast
def tw5105673956185107153:=Prop
def tw9296360433889664002:=Prop
def tw16968176118458789586:=Prop
def tw1454219785156648487:=Prop
def tw9497945907656264259:=Prop
def tw316514102143019080:=Prop
def tw1176975735165151067:=Prop
def tw9515242367644423802:=Prop
def tw13698048360955963301:=Prop
def tw10426125643436316091:=Prop
def tw906997338810173357:=Prop
def tw3528903376305711396:=Prop
def tw10199354318988768051:=Prop
def tw14442895186254868694:=Prop
def tw550859730669387710:=Prop
def tw4944538096920542639:=Prop
def tw14869557710840242666:=Prop
def tw13402640891724300857:=Prop
def tw17643754061406199020:=Prop
def tw1532905827683784112:=Prop
def tw8348929279939143713:=Prop
def tw11187973929812520656:=Prop
def tw8609586542792094281:=Prop
def tw3285859953031059425:=Prop
def tw11889039917686322224:=Prop
def tw5240190935848835389:=Prop
def tw10667965978278278033:=Prop
def tw9601000219436670146:=Prop
def tw1479287613276173130:=Prop
def tw15452572443179084588:=Prop
def tw11130230685582121624:=Prop
def tw16449049683821496617:=Prop
def tw9156678896304099913:=Prop
def tw15886500619415505586:=Prop
def tw3520363519792060846:=Prop
def tw531412535426860449:=Prop
def tw6486810437610700802:=Prop
def tw12048056826642495367:=Prop
def tw16075136791760097191:=Prop
def tw4419873286371483742:=Prop
def tw6494943896840636653:=Prop
def tw4135897612330176133:=Prop
def tw5671954072354940063:=Prop
def tw9986627191518016938:=Prop
def tw5856596252816178523:=Prop
def tw13436231055378572716:=Prop
def tw11930311979851757478:=Prop
def tw7503064181124827805:=Prop
def tw15221209806709932071:=Prop
def tw7398817070849623441:=Prop
def tw12798869161161681673:=Prop
def tw7560262347232990432:=Prop
def tw10209164474934016114:=Prop
def tw9774394379856643515:=Prop
def tw11047245738394521532:=Prop
def tw2257529940240947247:=Prop
def tw5891177449180782854:=Prop
def tw15402286563333779435:=Prop
def tw2667404662522813769:=Prop
def tw12533650973541477374:=Prop
def tw3101917741504857134:=Prop
def tw4359589691058243886:=Prop
def tw14048895322960730393:=Prop
def tw586414817643026165:=Prop
def tw18013738613805917565:=Prop
def tw1825691751249298209:=Prop
def tw4361700775904427359:=Prop
def tw7498633149979677338:=Prop
def tw3092117133297227249:=Prop
def tw15335523830956845186:=Prop
def tw3470010718395615242:=Prop
def tw10299302589577801163:=Prop
def tw8135990882902831502:=Prop
def tw11902711398340702967:=Prop
def tw13840814423707232359:=Prop
def tw11483614926036402024:=Prop
def tw15515405784836723652:=Prop
def tw9563574807059059695:=Prop
def tw15348117752812372481:=Prop
def tw17624731456758155189:=Prop
def tw16231819489803491086:=Prop
def tw2947586027576077979:=Prop
def tw4157206338815638501:=Prop
def tw16932301668260661676:=Prop
def tw11630328935867623959:=Prop
def tw5587826856885255690:=Prop
def tw8879981774537637704:=Prop
def tw6822529714786804032:=Prop
def tw16915470645016011554:=Prop
def tw6734199854066611161:=Prop
def tw16472409268878238316:=Prop
def tw10700183255674453818:=Prop
def tw4770949888891906500:=Prop
def tw8981913638643619018:=Prop
def tw13426244417702134072:=Prop
def tw1462193419119380569:=Prop
def tw742405457713269000:=Prop
def tw234749781942434899:=Prop
def tw18145098415874279589:=Prop
def tw5681066748535004433:=Prop
def tw529536973988259948:=Prop
def tw5958337225494893492:=Prop
def tw17541053060092493725:=Prop
def tw1906743188756502811:=Prop
def tw8426798971799828003:=Prop
def tw9416359806053724237:=Prop
def tw15861331538122591068:=Prop
def tw14501001857826371202:=Prop
def tw17925384258215065573:=Prop
def tw15934134986050697301:=Prop
def tw5030944203280556702:=Prop
def tw7328447075739424539:=Prop
def tw4216363875500904389:=Prop
def tw9435018134839604537:=Prop
def tw16539199913488330184:=Prop
def tw13517250619966689955:=Prop
def tw853867870972434600:=Prop
def tw12549480798472879603:=Prop
def tw8933567498414919238:=Prop
def tw8730455100892084961:=Prop
def tw5623994078177797194:=Prop
def tw12390559651112219368:=Prop
def tw13113311128994013787:=Prop
def tw3761122049097509064:=Prop
def tw14191745827877185554:=Prop
def tw5312734613080425828:=Prop
def tw10502693668590426699:=Prop
def tw10155365746132046468:=Prop
def tw11112971261363487917:=Prop
def tw17849293660312457548:=Prop
def tw16364373167927100580:=Prop
def tw35568349831873098:=Prop
def tw14613296582639449008:=Prop
def tw12018387782679925087:=Prop
def tw12043681936756833108:=Prop
def tw11779420592341035236:=Prop
def tw16745343075639119971:=Prop
def tw16749348522385944071:=Prop
def tw16792704761308240420:=Prop
def tw15365484819746726251:=Prop
def tw10561106145012299093:=Prop
def tw1987508650992133761:=Prop
def tw18395511878220121235:=Prop
def tw2208741240797131588:=Prop
def tw12027893231959348502:=Prop
def tw2283480497557504744:=Prop
def tw69414778264802052:=Prop
def tw416062468532545916:=Prop
def tw7175924686734873740:=Prop
def tw14285927966381778045:=Prop
def tw16550838102048051623:=Prop
def tw7537285074954141530:=Prop
def tw7215932318001415403:=Prop
def tw6285040191614719466:=Prop
def tw4571146918403064550:=Prop
def tw16950569574821323974:=Prop
def tw3172541193896328996:=Prop
def tw4843473975253519250:=Prop
def tw16172578528114110199:=Prop
def tw6012122021747098740:=Prop
def tw4598012029387006661:=Prop
def tw3307598998989760257:=Prop
def tw15803861116671422270:=Prop
def tw11309342325655673037:=Prop
def tw1541540961381408409:=Prop
def tw5388663596951873645:=Prop
def tw12673549619886724666:=Prop
def tw15705199264805783303:=Prop
def tw11849525312028181438:=Prop
def tw6084585794453331737:=Prop
def tw10785849952161257653:=Prop
def tw15943592676296772274:=Prop
def tw9488181201213887302:=Prop
def tw2536771547969941856:=Prop
def tw16900098544317168846:=Prop
def tw7317576523658780031:=Prop
def tw1191518686258777599:=Prop
def tw10635065575864489283:=Prop
def tw8621301723031713458:=Prop
def tw14198735713732576978:=Prop
def tw17312996333117680517:=Prop
def tw4248988804066548162:=Prop
def tw3414106826494052011:=Prop
def tw12068798485007620914:=Prop
def tw7363425622247834253:=Prop
def tw143287661451841328:=Prop
def tw17287205074728517176:=Prop
def tw12941643214049860704:=Prop
def tw13056512690104125533:=Prop
def tw8934421753687110507:=Prop
def tw4537827082999213091:=Prop
def tw4203021270051977171:=Prop
def tw3801760983836956406:=Prop
def tw11418939547134857076:=Prop
def tw3638187344944282256:=Prop
def tw3094701115853657799:=Prop
def tw1944925098504758534:=Prop
def tw13197444509695450237:=Prop
def tw1385777081429181588:=Prop
def tw16279701975793424917:=Prop
def tw4179031660912777645:=Prop
def tw1481561522626788794:=Prop
def tw9597476570122768466:=Prop
def tw4799839615521833854:=Prop
def tw6292166794754334899:=Prop
def tw371976131940695897:=Prop
def tw6586766797330607371:=Prop
def tw15508019666092448443:=Prop
def tw804092199982636349:=Prop
def tw2944391684731814369:=Prop
def tw14326666937008165477:=Prop
def tw13829591483307370896:=Prop
def tw16131418979919672264:=Prop
def tw17969941481158815411:=Prop
def tw8915963884622528690:=Prop
def tw8185526577758514290:=Prop
def tw16469568281967520401:=Prop
def tw15213048550514571353:=Prop
def tw2133271169735087666:=Prop
def tw1165732905965986049:=Prop
def tw17427895641331663283:=Prop
def tw6459200953577825518:=Prop
def tw4033379813872489195:=Prop
def tw3166399620581321579:=Prop
def tw8866799916698666265:=Prop
def tw14712817762504950641:=Prop
def tw8903238766108814736:=Prop
def tw5799554998426481285:=Prop
def tw8181798732573668865:=Prop
def tw16149030986926176842:=Prop
def tw11622863634709415212:=Prop
def tw11636702290074901078:=Prop
def tw7610715734942229976:=Prop
def tw9835574761811602075:=Prop
def tw1672326540721132644:=Prop
def tw8704305404121857298:=Prop
def tw14150022099575242417:=Prop
def tw17186741509365979835:=Prop
def tw4290539585013091505:=Prop
def tw13478877428745155630:=Prop
def tw1820406046763328738:=Prop
def tw8436589768386056944:=Prop
def tw18192907663531859256:=Prop
def tw17483246593336843265:=Prop
def tw3103751414666246812:=Prop
def tw6200747210346194187:=Prop
def tw17682402426280554898:=Prop
def tw6708892414054319099:=Prop
def tw6807009207803952845:=Prop
def tw13319170342346483122:=Prop
def tw15382044423783582273:=Prop
def tw10097012582147076362:=Prop
def tw5627616332142021980:=Prop
def tw12565002596728077416:=Prop
def tw959040563039039237:=Prop
def tw17721039672839981703:=Prop
def tw112567504061534027:=Prop
def tw182668025278835697:=Prop
def tw9192171586001469603:=Prop
def tw9359623039629485964:=Prop
def tw14846608996346228861:=Prop
def tw9455475090630465045:=Prop
def tw15416708228241726627:=Prop
def tw17004574920194074796:=Prop
def tw14023712959475348811:=Prop
def tw7825248364748044718:=Prop
def tw358491328311820773:=Prop
def tw4402504706719581215:=Prop
def tw17845374550828520631:=Prop
def tw11392713097197983755:=Prop
def tw16268753175028127129:=Prop
def tw14439765378166140033:=Prop
def tw8454840944936950519:=Prop
def tw18221076124747093969:=Prop
def tw7716921671940187209:=Prop
def tw10752687858943698738:=Prop
def tw9629638568524466495:=Prop
def tw7470021291188754609:=Prop
def tw16629561534657121264:=Prop
def tw17601101962401091345:=Prop
def tw13884827974113296321:=Prop
def tw14864845329073380503:=Prop
def tw7586693836618795562:=Prop
def tw4074981978428682757:=Prop
def tw12059592832596718669:=Prop
def tw1678685284944356640:=Prop
def tw13624067223694474022:=Prop
def tw14395535763308203431:=Prop
def tw11712190458185945011:=Prop
def tw10746989603658154836:=Prop
def tw7394473655412076685:=Prop
def tw11905978938385298303:=Prop
def tw12976177241038019767:=Prop
def tw10762484250532422250:=Prop
def tw13231743877010270464:=Prop
def tw14566440943485919492:=Prop
def tw15734334760007649912:=Prop
def tw15069716523494295500:=Prop
def tw9183887234732007851:=Prop
def tw14790834132378566595:=Prop
def tw8839083969933755074:=Prop
def tw5089109622011424599:=Prop
def tw13148303815899264127:=Prop
def tw5047655472420816975:=Prop
def tw8369868683130302868:=Prop
def tw802917404587063742:=Prop
def tw17546005709695080877:=Prop
def tw11764051201032110199:=Prop
def tw10845176269288740530:=Prop
def tw5488966160659634681:=Prop
def tw2294854397974045510:=Prop
def tw12221415409051222339:=Prop
def tw13260146092877858203:=Prop
def tw17714833071000019117:=Prop
def tw264859973967348148:=Prop
def tw15845117809764550140:=Prop
def tw13101539525013915119:=Prop
def tw6664951462986138201:=Prop
def tw15314323031021625729:=Prop
def tw12532165626772418067:=Prop
def tw6638926791290424541:=Prop
def tw13359630831485827548:=Prop
def tw901663782398073127:=Prop
def tw3241244739717862871:=Prop
def tw11769617611247221923:=Prop
def tw15679247252792206210:=Prop
def tw454280894128670149:=Prop
def tw8160871880118814707:=Prop
def tw6951939212644042833:=Prop
def tw7805864855692585105:=Prop
def tw16867462130957846885:=Prop
def tw8307445793153233802:=Prop
def tw9715166753854553471:=Prop
def tw17100184641858439841:=Prop
def tw15632388027458123374:=Prop
def tw7799292279061216081:=Prop
def tw5613845454599061817:=Prop
def tw7160180452043601882:=Prop
def tw14827384380277173613:=Prop
def tw15431134087688302020:=Prop
def tw9897558803702562313:=Prop
def tw12978678129208030876:=Prop
def tw723766284050672111:=Prop
def tw12897510573589207426:=Prop
def tw8008005557923197168:=Prop
def tw9508736203920968164:=Prop
def tw10543178825980762907:=Prop
def tw5759927347364260171:=Prop
def tw7900839787485558254:=Prop
def tw10884089432341657690:=Prop
def tw6585068141940680455:=Prop
def tw16878425626841360969:=Prop
def tw11990459337992974956:=Prop
def tw899467453790264098:=Prop
def tw15633060100805231896:=Prop
def tw6582134788679801411:=Prop
def tw4952506757814975653:=Prop
def tw17548501875881557423:=Prop
def tw5036445103931068615:=Prop
def tw517312751163448032:=Prop
def tw49257221699923509:=Prop
def tw10780761586765376359:=Prop
def tw603919011924581760:=Prop
def tw11732214188671553305:=Prop
def tw12671145501339873496:=Prop
def tw6834397320308548248:=Prop
def tw17938573788391313690:=Prop
def tw13792483299354683862:=Prop
def tw4954584648838934644:=Prop
def tw3482820431698744051:=Prop
def tw6511239469406747073:=Prop
def tw4198713400997701141:=Prop
def tw11002848052431835627:=Prop
def tw1313047135445303594:=Prop
def tw5165100917626407090:=Prop
def tw6737687440995333003:=Prop
def tw11973505968982382900:=Prop
def tw11289143093466461953:=Prop
def tw8368205733661556053:=Prop
def tw7963254771138671430:=Prop
def tw2478928736998500339:=Prop
def tw16919330064296535691:=Prop
def tw13959537954468581091:=Prop
def tw8086373703447589959:=Prop
def tw13989995598129119793:=Prop
def tw9516800180062724845:=Prop
def tw1712973634487312807:=Prop
def tw1948689806639624469:=Prop
def tw2852278927748849453:=Prop
def tw425938344300624212:=Prop
def tw5427499738942290107:=Prop
def tw18189533506524829052:=Prop
def tw10390157646234782899:=Prop
def tw1138913362466708187:=Prop
def tw6731276024794131016:=Prop
def tw14010756937746569603:=Prop
def tw4626940704210403192:=Prop
def tw1873328127978622562:=Prop
def tw13305670439411429421:=Prop
def tw14015890951069844909:=Prop
def tw17996964024917085871:=Prop
def tw178168908405807006:=Prop
def tw15726315211890062517:=Prop
def tw6396003848318028651:=Prop
def tw7042659310547366237:=Prop
def tw931956834028986255:=Prop
def tw17857563459279650048:=Prop
def tw9484893572878908112:=Prop
def tw4211952112222678748:=Prop
def tw9053782029162397877:=Prop
def tw1739691978179190616:=Prop
def tw14021004374263714266:=Prop
def tw8864380892348041232:=Prop
def tw13830249020947656091:=Prop
def tw1322031339247656150:=Prop
def tw7388713464098733815:=Prop
def tw7499281151589028774:=Prop
def tw12380031433413146341:=Prop
def tw9791681398072291233:=Prop
def tw1201823643857629683:=Prop
def tw13673065589402620214:=Prop
def tw15740581520725410121:=Prop
def tw4268201051430804902:=Prop
def tw3357109249204774647:=Prop
def tw14858129598448742980:=Prop
def tw13218621648322568166:=Prop
def tw14495299557687959983:=Prop
def tw16037262199133111090:=Prop
def tw2644793928968540899:=Prop
def tw5353813085845620550:=Prop
def tw5107255825281412738:=Prop
def tw6192104577313164617:=Prop
def tw380267787363406661:=Prop
def tw4475145619620083286:=Prop
def tw9001960471440542311:=Prop
def tw6108208118871286908:=Prop
def tw9308127886482624579:=Prop
def tw8532528403779714478:=Prop
def tw2348382526199129394:=Prop
def tw10693841506766600124:=Prop
def tw15724745641170818534:=Prop
def tw3555141088238359772:=Prop
def tw13481268755573549168:=Prop
def tw5485572742587201778:=Prop
def tw6203606158221864914:=Prop
def tw17093224777342109595:=Prop
def tw14255533807856875452:=Prop
def tw11234362934883249720:=Prop
def tw4211700434839312001:=Prop
def tw17837415989878807268:=Prop
def tw9585978970863474492:=Prop
def tw848858151624926571:=Prop
def tw10987736105736012968:=Prop
def tw5272677748111154927:=Prop
def tw4982327473614321822:=Prop
def tw4674102799890499726:=Prop
def tw14207915657524821833:=Prop
def tw5286587840749011222:=Prop
def tw6183355688225794848:=Prop
def tw6415066574636824545:=Prop
def tw5552461122284547459:=Prop
def tw6315216371427503177:=Prop
def tw5260856337621036202:=Prop
def tw15862806813707239167:=Prop
def tw6390373612929051886:=Prop
def tw7877236402650122457:=Prop
def tw9305391788130653963:=Prop
def tw8824595633291508535:=Prop
def tw1611551182742943237:=Prop
def tw1877735476730380715:=Prop
def tw9308725717764142674:=Prop
def tw14624137194681822032:=Prop
def tw12847321847948890356:=Prop
def tw15568136977402293060:=Prop
def tw11487128817927173152:=Prop
def tw8954067861541931720:=Prop
def tw14199714164133228370:=Prop
def tw9761588102954696855:=Prop
def tw4449657751673405704:=Prop
def tw5764117369366255280:=Prop
def tw726985913927333873:=Prop
def tw15718574390098580149:=Prop
def tw2385268686561707046:=Prop
def tw2927799364441409784:=Prop
def tw729466047920990731:=Prop
def tw11717690317537128808:=Prop
def tw15137687247720179910:=Prop
def tw17513604867990543079:=Prop
def tw9122274009815981030:=Prop
def tw8445716188487379795:=Prop
def tw969648714781328785:=Prop
def tw347805415268056836:=Prop
def tw8605165415444627158:=Prop
def tw13553050674002434610:=Prop
def tw14987661418082201831:=Prop
def tw1722802803701587481:=Prop
def tw3382304716988349589:=Prop
def tw15632992782082381434:=Prop
def tw15934030157929616494:=Prop
def tw2754692670688779762:=Prop
def tw4382769092392356903:=Prop
def tw5426448371682200115:=Prop
def tw3450989490954552525:=Prop
def tw8126552424372712672:=Prop
def tw5661640270340304354:=Prop
def tw4769901133546641911:=Prop
def tw17094580856887593759:=Prop
def tw3904583755211930517:=Prop
def tw17119971604622065936:=Prop
def tw14788362278542820120:=Prop
def tw16025434724436758002:=Prop
def tw9316670756482807701:=Prop
def tw14124935244785052151:=Prop
def tw2207375189310295436:=Prop
def tw5266450434754204200:=Prop
def tw10069975712529536831:=Prop
def tw7317234293075219:=Prop
def tw4425046354534653865:=Prop
def tw2969480146181677978:=Prop
def tw3373145609055282853:=Prop
def tw9832553117377153458:=Prop
def tw14722794537435163219:=Prop
def tw18431155831084640082:=Prop
def tw2912592304959361012:=Prop
def tw11069628954808310989:=Prop
def tw3892864765347196996:=Prop
def tw7942853410682446962:=Prop
def tw17698735102306075112:=Prop
def tw15078095837771203109:=Prop
def tw11118301316682269745:=Prop
def tw11188117447681078326:=Prop
def tw16186510892431351131:=Prop
def tw4227517698962585424:=Prop
def tw14749253800190834908:=Prop
def tw6215920317759002765:=Prop
def tw519266280920424228:=Prop
def tw9895319725981956093:=Prop
def tw16296626546367184724:=Prop
def tw9466130334346563993:=Prop
def tw11763852733077360975:=Prop
def tw143782271200020318:=Prop
def tw15977843376605620593:=Prop
def tw8526028360262338249:=Prop
def tw16495072911740989982:=Prop
def tw11331162828799738194:=Prop
def tw17398146341500462573:=Prop
def tw1877378965866140348:=Prop
def tw12694589447371642155:=Prop
def tw4153491320931672185:=Prop
def tw15545184769064153574:=Prop
def tw5565376262109202332:=Prop
def tw10267551232223586437:=Prop
def tw11165118516710488114:=Prop
def tw12067549021546063074:=Prop
def tw15755044616229629136:=Prop
def tw16809252239103401712:=Prop
def tw2857234818492195956:=Prop
def tw17401831432661337422:=Prop
def tw4916127144345927284:=Prop
def tw1647960591809683682:=Prop
def tw2791417458454038152:=Prop
def tw17878424488110687958:=Prop
def tw14267268813261638861:=Prop
def tw12662363693902343356:=Prop
def tw5835942142707902020:=Prop
def tw10015450608781386451:=Prop
def tw4185518321428705831:=Prop
def tw3345597093286824917:=Prop
def tw5680315236850328200:=Prop
def tw8174591469460913490:=Prop
def tw11786325122171474085:=Prop
def tw15325311475551686242:=Prop
def tw15639028444304104736:=Prop
def tw1349615225243010270:=Prop
def tw15223397061033166810:=Prop
def tw763151578990004582:=Prop
def tw7343611390307366373:=Prop
def tw7089793799200125183:=Prop
def tw5916140570258018564:=Prop
def tw18208996565591813656:=Prop
def tw8159976661246289121:=Prop
def tw7340446101256811000:=Prop
def tw3121739546393284973:=Prop
def tw14323227155912201964:=Prop
def tw14734032772098568817:=Prop
def tw12815670308626618822:=Prop
def tw14900259974334564751:=Prop
def tw2962324470309885386:=Prop
def tw744308932230929381:=Prop
def tw2747774915501398362:=Prop
def tw8667492640987031791:=Prop
def tw13669522585143040522:=Prop
def tw11320351676317602388:=Prop
def tw11329467641453361123:=Prop
def tw7020395562169822392:=Prop
def tw12616699830948850482:=Prop
def tw13774056567397157767:=Prop
def tw13252108370143244208:=Prop
def tw5541168653056121806:=Prop
def tw6793172497655745189:=Prop
def tw6905212232875527693:=Prop
def tw13952158723898717365:=Prop
def tw5310652868755799522:=Prop
def tw8079883169468671255:=Prop
def tw10378583025934500588:=Prop
def tw7524379617451308511:=Prop
def tw18167724695441219349:=Prop
def tw12392129776423771058:=Prop
def tw15722476443830486393:=Prop
def tw6880125886219600808:=Prop
def tw7420531298404749032:=Prop
def tw4968929673044707356:=Prop
def tw13887902116395311400:=Prop
def tw1391549112126926301:=Prop
def tw12712400820596877648:=Prop
def tw17888565902029391346:=Prop
def tw10846345724684618374:=Prop
def tw16228728417992630932:=Prop
def tw13055661147411815287:=Prop
def tw7813085147181723415:=Prop
def tw3934833063311361131:=Prop
def tw75764501244781629:=Prop
def tw14089793440868904340:=Prop
def tw7076977106511060911:=Prop
def tw11927959462513203279:=Prop
def tw274189353798237994:=Prop
def tw2873748437651673626:=Prop
def tw5315833730557488597:=Prop
def tw6873971014812347169:=Prop
def tw8891557043749499067:=Prop
def tw6999419289813526679:=Prop
def tw4340971767527515617:=Prop
def tw644751248652905101:=Prop
def tw10497823618577955822:=Prop
def tw13508602156133886167:=Prop
def tw2680141511932349947:=Prop
def tw10733525418748422364:=Prop
def tw897888412878121761:=Prop
def tw14279065940840616024:=Prop
def tw4038909232737020655:=Prop
def tw18329075359065952542:=Prop
def tw1267704075650749254:=Prop
def tw7950223703418521501:=Prop
def tw16463793508043411602:=Prop
def tw4936180654686512593:=Prop
def tw4888033052430993751:=Prop
def tw5587484289544270231:=Prop
def tw8131721106225051767:=Prop
def tw5847202018973711932:=Prop
def tw3808584094389355786:=Prop
def tw15261137711255440680:=Prop
def tw10800367221633172730:=Prop
def tw10134030333460990790:=Prop
def tw8860130008918733972:=Prop
def tw4177351759533223642:=Prop
def tw2202087279664922802:=Prop
def tw16925118299729312639:=Prop
def tw4773397407553703792:=Prop
def tw921561521215706043:=Prop
def tw4799189423077775474:=Prop
def tw16699019767340423185:=Prop
def tw17456480263006714056:=Prop
def tw14763428746477059428:=Prop
def tw5363195699714531557:=Prop
def tw1567247161763788871:=Prop
def tw18182889222666715495:=Prop
def tw14335355579717207800:=Prop
def tw8674833295852230495:=Prop
def tw7894344252036594922:=Prop
def tw5845538515087863352:=Prop
def tw7090585071989052306:=Prop
def tw438459731153329746:=Prop
def tw8060744490709563079:=Prop
def tw11224361182253327997:=Prop
def tw12111957463147405440:=Prop
def tw15888159438429106303:=Prop
def tw10729351905339586543:=Prop
def tw4188684199736651882:=Prop
def tw1826987945724244988:=Prop
def tw17338234738716814015:=Prop
def tw704147369595269066:=Prop
def tw6623812351622530092:=Prop
def tw1998032249293215463:=Prop
def tw14113110954290816071:=Prop
def tw10448383514627668160:=Prop
def tw9161490523856799436:=Prop
def tw6760056911573607715:=Prop
def tw6089177832033215386:=Prop
def tw10925597439039874015:=Prop
def tw11300376045408061371:=Prop
def tw12011070553636201877:=Prop
def tw3369663099759083609:=Prop
def tw18277388166739348960:=Prop
def tw6429450841261186155:=Prop
def tw4403367617266980805:=Prop
def tw3133745999044795564:=Prop
def tw9751423446361702133:=Prop
def tw1061639710858884176:=Prop
def tw671769174312181376:=Prop
def tw17570062618377817894:=Prop
def tw3543174748483581286:=Prop
def tw8369655760788974282:=Prop
def tw10232147439284725336:=Prop
def tw670427922429333600:=Prop
def tw2374466318677132124:=Prop
def tw12319733152821033628:=Prop
def tw18443007809517869832:=Prop
def tw3083371992184736890:=Prop
def tw10354477200866600673:=Prop
def tw7395645310213146516:=Prop
def tw3302770140995672700:=Prop
def tw12079628635447562283:=Prop
def tw10661956449011590994:=Prop
def tw6039910963103447728:=Prop
def tw3048301304931576756:=Prop
def tw714049069090440106:=Prop
def tw6252695792229605141:=Prop
def tw5802571108899374253:=Prop
def tw14658174975189471336:=Prop
def tw12487779173672901959:=Prop
def tw10393078302967963895:=Prop
def tw7007158731953197150:=Prop
def tw6205024481829086969:=Prop
def tw16884622931589843948:=Prop
def tw4034687210265294523:=Prop
def tw5015507407206683207:=Prop
def tw8621336744817483243:=Prop
def tw16408362238061914836:=Prop
def tw10412780308102683651:=Prop
def tw1817805791611690161:=Prop
def tw14064692534454641163:=Prop
def tw15155859288707382567:=Prop
def tw5425125011635884837:=Prop
def tw11347631108264317165:=Prop
def tw9513619709740374535:=Prop
def tw8886442042033028919:=Prop
def tw14450700003503465928:=Prop
def tw10728712052571211117:=Prop
def tw11586196018267737339:=Prop
def tw11522840503767320408:=Prop
def tw5805183375971660199:=Prop
def tw17590088832654516399:=Prop
def tw4842887358765978389:=Prop
def tw14398365135244066966:=Prop
def tw6606014719576569030:=Prop
def tw15250632263150132618:=Prop
def tw10241233070082051121:=Prop
def tw10285885531015897042:=Prop
def tw3321576952164483024:=Prop
def tw8249347019533418915:=Prop
def tw17960406059949683352:=Prop
def tw14112606434462084385:=Prop
def tw14593252181223967585:=Prop
def tw15988265368706215130:=Prop
def tw3488647797146898431:=Prop
def tw3903891618737965568:=Prop
def tw12319047049370110589:=Prop
def tw7834740603555865465:=Prop
def tw12590770754756799043:=Prop
def tw133755455108545178:=Prop
def tw16286715671046524454:=Prop
def tw5609530884314319229:=Prop
def tw6788773261714906821:=Prop
def tw7945405709010385892:=Prop
def tw12694112234171929671:=Prop
def tw2484844197603217540:=Prop
def tw7717702957765121957:=Prop
def tw13350131943787299761:=Prop
def tw1354003750591732747:=Prop
def tw14731147920152588799:=Prop
def tw8078195926588453703:=Prop
def tw5674458297940323589:=Prop
def tw3822784309164373692:=Prop
def tw12523711969749109062:=Prop
def tw11269825475406603969:=Prop
def tw11389117665151840592:=Prop
def tw12036168689724814288:=Prop
def tw5011889884212318148:=Prop
def tw1041263688889175116:=Prop
def tw10184835648761350555:=Prop
def tw8175973581910071180:=Prop
def tw1292346606274980823:=Prop
def tw16717272659965454103:=Prop
def tw14245618210516037357:=Prop
def tw7863334642751645535:=Prop
def tw6381902497316938245:=Prop
def tw1906461178052628661:=Prop
def tw6784790241324674965:=Prop
def tw2456577590951144490:=Prop
def tw8697654515486363317:=Prop
def tw8848340392469278725:=Prop
def tw8877373362634485534:=Prop
def tw12436235973947379448:=Prop
def tw4636031889025220839:=Prop
def tw1539761271059485607:=Prop
def tw4872952286622431662:=Prop
def tw12737541344736672974:=Prop
def tw6595744693926533701:=Prop
def tw5399014298235654608:=Prop
def tw16607927582987124570:=Prop
def tw13949155002146243131:=Prop
def tw4589182232624314844:=Prop
def tw14949513074056673275:=Prop
def tw15755219311246346914:=Prop
def tw16970792351503237766:=Prop
def tw13708279966662545973:=Prop
def tw1620389302784492585:=Prop
def tw10149639745659574222:=Prop
def tw13323373534744806615:=Prop
def tw17129413109452088230:=Prop
def tw15854262060937163188:=Prop
def tw17960848765466677729:=Prop
def tw1096354831752916523:=Prop
def tw7910172739516966087:=Prop
def tw7263363503728760936:=Prop
def tw17802128708061929859:=Prop
def tw9835382159548102362:=Prop
def tw19751972998642308:=Prop
def tw14650769484350525481:=Prop
def tw5713610079918043996:=Prop
def tw17181403740406987024:=Prop
def tw18042889414512086050:=Prop
def tw11982959770356382578:=Prop
def tw16900135722406889126:=Prop
def tw3016012700857477809:=Prop
def tw3942624392001961204:=Prop
def tw12328853128172473661:=Prop
def tw5738919822854818926:=Prop
def tw6728313399510405491:=Prop
def tw16338214745046372782:=Prop
def tw2450569374399577549:=Prop
def tw11526203479690249398:=Prop
def tw6662249597110656733:=Prop
def tw5921587261177403197:=Prop
def tw11654023200298843171:=Prop
def tw16803143847538834185:=Prop
def tw11843833423457600547:=Prop
def tw15536387163757344236:=Prop
def tw15719748902143223830:=Prop
def tw17108046237660401759:=Prop
def tw16504757533647375273:=Prop
end PySem.W.Fast
open PySem PySem.W PyProof.Rows
set_option maxRecDepth 100000
set_option maxHeartbeats 0
open_top head for PySem.Challenge.rw_codemill_k11_refused_runs
theorem PySem.Challenge.cw_codemill_k11_refused_runs_holds : PySem.Challenge.rw_codemill_k11_refused_runs.Holds :=
 head (by
 k_fill
 refine My.walk (l:=PySem.Challenge.rw_codemill_k11_refused_runs) rfl rfl (fun w h Y=>PySem.W.kIn_of Y) ?F
 case F=>
  intro w mg fa h KX G hmg
  refine' My.all_mk KX G hmg ?_ ?_ ?_ ?_ ?_ ?_ ?_ ?_ ?_ ?_ ?_ ?_ ?_ ?_ ?_ ?_ ?_ ?_ ?_ ?_ ?_ ?_ ?_ ?_ ?_ ?_ ?_ ?_ ?_ ?_ ?_ ?_ ?_ ?_ ?_ ?_ ?_ ?_ ?_ ?_ ?_ ?_ ?_ ?_ ?_ ?_ ?_ ?_ ?_ ?_ ?_ ?_ ?_ ?_ ?_ ?_ ?_ ?_ ?_ ?_ ?_ ?_ ?_ ?_ ?_ ?_ ?_ ?_ ?_ ?_ ?_ ?_ ?_ ?_ ?_ ?_ ?_ ?_ ?_ ?_ ?_ ?_ ?_ ?_ ?_ ?_ ?_ ?_ ?_ ?_ ?_ ?_ ?_ ?_ ?_ ?_ ?_ ?_ ?_ ?_ ?_ ?_ ?_ ?_ ?_ ?_ ?_ ?_ ?_ ?_ ?_ ?_ ?_ ?_ ?_ ?_ ?_ ?_ ?_ ?_ ?_ ?_ ?_ ?_ ?_ ?_ ?_ ?_ ?_ ?_ ?_ ?_ ?_ ?_ ?_ ?_ ?_ ?_ ?_ ?_ ?_ ?_ ?_ ?_ ?_ ?_ ?_ ?_ ?_ ?_ ?_ ?_ ?_ ?_ ?_ ?_ ?_ ?_ ?_ ?_ ?_ ?_ ?_ ?_ ?_ ?_ ?_ ?_ ?_ ?_ ?_ ?_ ?_ ?_ ?_ ?_ ?_ ?_ ?_ ?_ ?_ ?_ ?_ ?_ ?_ ?_ ?_ ?_ ?_ ?_ ?_ ?_ ?_ ?_ ?_ ?_ ?_ ?_ ?_ ?_ ?_ ?_ ?_ ?_ ?_ ?_ ?_ ?_ ?_ ?_ ?_ ?_ ?_ ?_ ?_ ?_ ?_ ?_ ?_ ?_ ?_ ?_ ?_ ?_ ?_ ?_ ?_ ?_ ?_ ?_
  any_goals exact My.hdm (by k_is) (by k_is) (by k_is) (by k_is)
  any_goals exact My.cnm (by k_is) (by first | exact rfl | exact ⟨_,rfl⟩)
  any_goals exact My.ktm (by k_is) (by k_is) (by k_keys) (by first | exact rfl | decide) (by repeat (first | exact .nil | refine .cons ⟨⟨_,rfl⟩,(by first | exact rfl | exact ⟨_,rfl⟩)⟩ ?_))
  any_goals exact My.kum (by k_is) (by k_is) rfl rfl (by repeat (first | exact .nil | refine .cons (by first | exact rfl | exact ⟨_,rfl⟩) ?_)) (by decide)
  any_goals k_is
  any_goals exact My.mdm (by k_is) (by k_is) (My.lk_mk (by k_is) (by k_is) (by k_is))
  any_goals exact My.lk_mk (by k_is) (by k_is) (by k_is)
  any_goals first | exact rfl | exact ⟨_,rfl⟩ | k_keys | decide
  any_goals (repeat (first | exact .nil | refine .cons (by first | exact rfl | exact ⟨_,rfl⟩) ?_))
  any_goals k_is
  any_goals exact rfl
  any_goals k_exc
  any_goals (with_unfolding_all exact rfl))
