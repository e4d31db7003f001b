import PyProof.Rows.All
import Wide.All
import OpenK.AllK
import Wide.FinOn
import Lean
import PyProof.EqAt
import PyProof.EqKinds
import PyProof.TupleCall
import KE.KLam
import KE.KSortKey
import PySem.Challenge.RW_threetrees_k18_whole_colours_of_turned_r
set_option linter.all false
set_option Elab.async false
set_option maxRecDepth 100000
set_option linter.defProp false
def Aa0:=@List.mem_append
def Aa1:=@List.mem_cons
def Aa2:=@List.getElem?_eq_getElem
def Aa3:=@List.length_map
def Aa4:=@List.nodup_append
def Aa5:=@List.nodup_cons
def Aa6:=@PySem.Heap.get?_push_of_some
def Aa7:=@Nat.le_refl
def Aa8:=@List.mem_map
def Aa9:=@List.getElem?_map
def Ab0:=@List.getElem?_eq_some_iff
def Ab1:=@PySem.F.plainAttrs_list
def Ab2:=@List.size_toArray
def Ab3:=@PySem.Heap.lt_size
def Ab4:=@Option.some.inj
def Ab5:=@List.mem_range
def Ab6:=@List.cons_append
def Ab7:=@List.length_append
def Ab8:=@Nat.lt_of_lt_of_le
def Ab9:=@Nat.ne_of_lt
def Ac0:=@List.getD_eq_getElem?_getD
def Ac1:=@List.mem_append_right
def Ac2:=@List.not_mem_nil
def Ac3:=@PySem.Heap.get?_push_size
def Ac4:=@List.idxOf_lt_length_of_mem
def Ac5:=@List.eq_nil_or_concat
def Ac6:=@List.nodup_iff_pairwise_ne
def Ac7:=@List.map_cons
def Ac8:=@Int.toNat_natCast
def Ac9:=@List.all_eq_true
def Ad0:=@List.getElem?_set_ne
def Ad1:=@List.length_take
def Ad2:=@List.map_append
def Ad3:=@List.take_append_drop
def Ad4:=@List.mem_cons_of_mem
def Ad5:=@List.append_of_mem
def Ad6:=@List.getElem?_eq_none
def Ad7:=@List.append_assoc
def Ad8:=@List.mem_singleton
def Ad9:=@Nat.lt_irrefl
def Ae0:=@List.pairwise_map
def Ae1:=@List.length_reverse
def Ae2:=@List.map_map
namespace L2
open PySem PySem.Spec PyProof.Rows
abbrev Key:=Sum Int Str
def cG6:Key->Value->Bool
 | .inl k,v=>Value.isInt k v
 | .inr x,v=>Value.isStrOf x v
def cX7 (w:World):Key->Int
 | .inl k=>hashInt k
 | .inr x=>hashStr w x
theorem K9:∀{k:Key} {v:Value},cG6 k v=true->(∃i t,k=Sum.inl i/\v=Value.int i t)\/(∃x t,k=Sum.inr x/\v=Value.str x t)
 | .inl i,v,h=>by
  obtain ⟨t,e⟩:=Value.isInt_shape (k:=i) (v:=v) h;exact .inl ⟨i,t,rfl,e⟩
 | .inr x,v,h=>by
  obtain ⟨t,e⟩:=Value.isStrOf_shape (x:=x) (v:=v) h;exact .inr ⟨x,t,rfl,e⟩
theorem cN0 (a b:Int):decide ((Sum.inl a:Key)=Sum.inl b)=(a==b):=by
 by_cases e:a=b
 ·subst e;simp
 ·have h:¬(Sum.inl a:Key)=Sum.inl b:=λq=>e (Sum.inl.inj q)
  rw[decide_eq_false h];exact(beq_eq_false_iff_ne.mpr e).symm
theorem cI5 (a b:Str):decide ((Sum.inr a:Key)=Sum.inr b)=decide (a=b):=by
 by_cases e:a=b
 ·subst e;simp
 ·have h:¬(Sum.inr a:Key)=Sum.inr b:=λq=>e (Sum.inr.inj q)
  rw[decide_eq_false h,decide_eq_false e]
theorem cI4 (a:Int)(b:Str):decide ((Sum.inl a:Key)=Sum.inr b)=false:=decide_eq_false (λq=>nomatch q)
theorem cJ6 (a:Str)(b:Int):decide ((Sum.inr a:Key)=Sum.inl b)=false:=decide_eq_false (λq=>nomatch q)
def bN7 (prog:Program)(w:World):PySem.KeyKind prog w Key where
 is:=cG6
 hash:=cX7 w
 inj:=λv a b ha hb=>by
  rcases K9 ha with ⟨i,t,rfl,rfl⟩ | ⟨x,t,rfl,rfl⟩
  ·rcases K9 hb with ⟨j,u,rfl,e⟩ | ⟨y,u,rfl,e⟩
   ·injection e with e1 _;rw[e1]
   ·exact nomatch e
  ·rcases K9 hb with ⟨j,u,rfl,e⟩ | ⟨y,u,rfl,e⟩
   ·exact nomatch e
   ·injection e with e1 _;rw[e1]
 byValue:=λk v h=>by
  rcases K9 h with ⟨i,t,rfl,rfl⟩ | ⟨x,t,rfl,rfl⟩ <;> rfl
 pyHash:=λhv h=>by
  rcases K9 hv with ⟨i,t,rfl,rfl⟩ | ⟨x,t,rfl,rfl⟩
  ·exact wpAny_pyHash_int h
  ·exact wpAny_pyHash_str h
 eqBool:=λhu hv h=>by
  rcases K9 hu with ⟨i,t,rfl,rfl⟩ | ⟨x,t,rfl,rfl⟩
  ·rcases K9 hv with ⟨j,u,rfl,rfl⟩ | ⟨y,u,rfl,rfl⟩
   ·rw[cN0]at h;exact wpAny_eqBool_int h
   ·rw[cI4]at h;exact SeqAt.EqAt.int_str i t y u _ _ _ _ h
  ·rcases K9 hv with ⟨j,u,rfl,rfl⟩ | ⟨y,u,rfl,rfl⟩
   ·rw[cJ6]at h;exact SeqAt.EqAt.str_int x t j u _ _ _ _ h
   ·rw[cI5]at h;exact wpAny_eqBool_str h
 «strs» := λk x t v h=>by
  rcases K9 h with ⟨i,u,rfl,e⟩ | ⟨y,u,rfl,e⟩
  ·exact nomatch e
  ·injection e with e1 _
   subst e1;cases v <;> rfl
inductive V where
 | non | bl (b:Bool) | int (i:Int) | str (x:Str) | byt (b:Array UInt8) | flt (b:UInt64) | ref (a:Addr) | ty (n:String)
 deriving DecidableEq
def RelV:V->Value->Prop
 | .non,u=>u=Value.none
 | .bl b,u=>u=Value.bool b
 | .int i,u=>∃t,u=Value.int i t
 | .str x,u=>∃t,u=Value.str x t
 | .byt b,u=>∃t,u=Value.bytes b t
 | .flt b,u=>∃t,u=Value.float b t
 | .ref a,u=>u=Value.ref a
 | .ty n,u=>u=Value.type n
abbrev Vals:List V->List Value->Prop:=Paired RelV
theorem Vals.length {xs:List V}{us:List Value}(r:Vals xs us):xs.length=us.length:=Paired.length r
theorem Vals.get:∀{xs:List V} {us:List Value} {i:Nat} {x:V},Vals xs us->xs[i]? = some x->∃u,us[i]? = some u/\RelV x u
 | _,_,_,_,.nil,e=>by simp at e
 | _,_,0,_,.cons r _,e=>by simp at e;subst e;exact⟨_,rfl,r⟩
 | _,_,i+1,x,.cons _ t,e=>by
  obtain ⟨u,h1,h2⟩:=Vals.get (i:=i) (x:=x) t (by simpa using e)
  exact⟨u,by simpa using h1,h2⟩
theorem Vals.set {x:V}{u:Value}(r:RelV x u):∀{xs:List V} {us:List Value} (i:Nat),Vals xs us->Vals (xs.set i x) (us.set i u)
 | _,_,_,.nil=>.nil
 | _,_,0,.cons _ t=>.cons r t
 | _,_,i+1,.cons q t=>.cons q (Vals.set r i t)
theorem Vals.append:∀{xs ys:List V} {us ws:List Value},Vals xs us->Vals ys ws->Vals (xs++ys) (us++ws)
 | _,_,_,_,.nil,s=>s
 | _,_,_,_,.cons r t,s=>.cons r (Vals.append t s)
theorem Vals.take:∀{xs:List V} {us:List Value} (n:Nat),Vals xs us->Vals (xs.take n) (us.take n)
 | _,_,0,_=>.nil
 | _,_,_+1,.nil=>.nil
 | _,_,n+1,.cons r t=>.cons r (Vals.take n t)
theorem Vals.drop:∀{xs:List V} {us:List Value} (n:Nat),Vals xs us->Vals (xs.drop n) (us.drop n)
 | _,_,0,r=>r
 | _,_,_+1,.nil=>.nil
 | _,_,n+1,.cons _ t=>Vals.drop n t
def cR9:Option V->Option Value->Prop
 | some v,some u=>RelV v u
 | none,none=>True
 | _,_=>False
def KV {κ:Type}:List (κ×V)->List (κ×Value)->Prop:=Paired λ(p:κ×V) (q:κ×Value)=>p.1=q.1/\RelV p.2 q.2
def kV:Key->V
 | .inl i=>.int i
 | .inr x=>.str x
inductive HO where
 /-- a list -/
 | lst (xs:List V)
 /-- a tuple (never changes) -/
 | tup (xs:List V)
 /-- a dict whose keys are ints and texts;one whose keys are tuples of ints and texts (the empty one is both) -/
 | dK (kvs:List (Key×V)) | dT (kvs:List (List Key×V))
 /-- a set of ints: its members,its size -/
 | set (S:Int->Bool) (n:Nat)
 /-- an instance of the class at C,its dict at dx,its attributes -/
 | ins (C dx:Addr) (fs:List (Str×V))
 /-- the dict of the instance at x -/
 | own (x:Addr)
 /-- the dict of an exception -/
 | xd (fs:List (Str×V))
 /-- a bound method,f of x -/
 | met (f x:Addr)
 /-- a range object lo,lo+1,.. below hi -/
 | rng (lo hi:Int)
 /-- a thing that is known to the object (the script;a dict while a loop walks it): read,never written while it is so -/
 | frz (o:Obj) (u:HO)
 /-- a code object's table -/
 | tbl (ps:Array Value)
 /-- a code object of this name -/
 | cod (q:Str)
 /-- any other thing,by what is true of its one object (a def of one's own: SetO a S n:=HO.ext λh=>..) -/
 | ext (φ:Heap->Prop)
abbrev Hp:=Addr->Option HO
def upd (H:Hp)(a:Addr)(o:HO):Hp:=λb=>if b=a then some o else H b
theorem C0 {H:Hp}{a:Addr}{o:HO}:upd H a o a=some o:=by unfold upd;rw[if_pos rfl]
theorem B0 {H:Hp}{a b:Addr}{o:HO}(h:b≠a):upd H a o b=H b:=by unfold upd;rw[if_neg h]
theorem C8 {H:Hp}{a b:Addr}{o:HO}(h:H a=some o)(h':H b=none):a≠b:=by
 intro e;subst e;rw[h]at h';cases h'
def Tup0 (h:Heap)(a:Addr)(items:Array Value):Prop:=∃o,h.get? a=some o/\o.cls=.type "tuple" /\ (∃n,o.data=.seq items n)/\o.dict=none
theorem Tup0.tup {h:Heap}{a:Addr}{items:Array Value}(p:Tup0 h a items):IsTup h a items:=p.imp λ_ q=>⟨q.1,q.2.1,q.2.2.1⟩
theorem Tup0.nw (h:Heap)(items:Array Value)(n:Nat):Tup0 (h.push {cls:=.type "tuple",data:=.seq items n}) h.objs.size items:=⟨_,Ac3 _ rfl,rfl,⟨n,rfl⟩,rfl⟩
def Fix:HO->Prop
 | .tup _=>True
 | .cod _=>True
 | _=>False
section
variable (P:Program)(w:World)
def ObjOk (H:Hp)(h:Heap)(a:Addr):HO->Prop
 | .lst xs=>xs.length<=sizeLine/\∃(its:List Value) (n:Nat),Vals xs its/\h.get? a=some {cls:=.type "list",data:=.seq its.toArray n}
 | .tup xs=>xs.length<=sizeLine/\∃its:List Value,Vals xs its/\Tup0 h a its.toArray
 | .dK kvs=>kvs.length<=sizeLine/\(a==sysModules)=false/\∃vs,KV kvs vs/\h.DictOf (bN7 P w) a vs
 | .dT kvs=>kvs.length<=sizeLine/\(a==sysModules)=false/\∃xs:List (List Key×Addr×Value),
   Paired (λ(p:List Key×V) (q:List Key×Addr×Value)=>p.1=q.1/\H q.2.1=some (.tup (p.1.map kV))/\RelV p.2 q.2.2) kvs xs /\
   ∃o es ep,h.get? a=some o/\o.ExactDict/\o.data=.dict es ep/\es.toList=xs.map (entryOfKey (tupleKind (bN7 P w)))/\(xs.map (·.1)).Nodup
 | .set S n=>h.SetOf (intKind P w) a S n
 | .ins C dx fs=>H dx=some (.own a)/\fs.length<=1000/\dx≠a/\h.get? a=some (PySem.W.instObj C dx) /\
   ∃mA,h.Ns1 dx mA/\(∀f,cR9 (fs.lookup f) (mA f))/\PySem.Within mA (fs.map (·.1))
 | .own _=>∃o,h.get? a=some o
 | .xd fs=>∃mA,h.Ns1 a mA/\∀f,cR9 (fs.lookup f) (mA f)
 | .rng lo hi=>∃t u v,h.get? a=some {cls:=.type "range",data:=.fields #[.int lo t,.int hi u,.int 1 v]}
 | .frz o u=>h.get? a=some o/\ObjOk H h a u
 | .tbl ps=>∃qs:Array Value,h.get? a=some {cls:=.none,data:=.fields qs}/\TriplesOk qs.toList /\
   ∀pos cv,codeAmong pos qs.toList=some cv->∃c' q t,cv=.ref c'/\H c'=some (.cod q)/\(ps[0]? : Option Value)=some (.str q t)
 | .cod q=>h.CodeRec (.ref a) q
 | .met f x=>h.get? a=some (PySem.W.methodObj (.ref f) (.ref x))
 | .ext φ => φ h/\(∃o,h.get? a=some o)/\∀h1 h2:Heap,φ h1->(∀o,h1.get? a=some o->h2.get? a=some o)->φ h2
def HOk (H:Hp)(h:Heap):Prop:=∀a o,H a=some o->ObjOk P w H h a o
end
section
variable {P:Program}{w:World}{H H':Hp}{h h':Heap}{a:Addr}{o:HO}
theorem ObjOk.lt (x:ObjOk P w H h a o):a<h.objs.size:=by
 cases o with
 | lst xs=>obtain ⟨_,_,_,_,e⟩:=x;exact Ab3 e
 | tup xs=>obtain ⟨_,_,_,p⟩:=x;exact p.tup.lt
 | dK kvs=>obtain ⟨_,_,_,_,o,_,_,e,_⟩:=x;exact Ab3 e
 | dT kvs=>obtain ⟨_,_,_,_,o,_,_,e,_⟩:=x;exact Ab3 e
 | set S n=>obtain ⟨o,_,_,_,e,_⟩:=x;exact Ab3 e
 | ins C dx fs=>obtain ⟨_,_,_,e,_⟩:=x;exact Ab3 e
 | own y=>obtain ⟨_,e⟩:=x;exact Ab3 e
 | xd fs=>obtain ⟨_,⟨_,_,_,e,_⟩,_⟩:=x;exact Ab3 e
 | rng lo hi=>obtain ⟨_,_,_,e⟩:=x;exact Ab3 e
 | frz ob u=>obtain ⟨e,_⟩:=x;exact Ab3 e
 | tbl ps=>obtain ⟨_,e,_⟩:=x;exact Ab3 e
 | cod q=>obtain ⟨_,_,_,_,z,e,_⟩:=x;cases z;exact Ab3 e
 | met f y=>exact Ab3 (show h.get? a=some _ from x)
 | ext φ=>obtain ⟨_,⟨_,e⟩,_⟩:=x;exact Ab3 e
theorem Paired.mapP {α β:Type}{F G:α->β->Prop}:∀{l₁:List α} {l₂:List β},Paired F l₁ l₂->(∀a b,F a b->G a b)->Paired G l₁ l₂
 | _,_,.nil,_=>.nil
 | _,_,.cons r t,f=>.cons (f _ _ r) (Paired.mapP t f)
theorem ObjOk.stay (x:ObjOk P w H h a o)(k:∀b u,(b=a\/H b=some (.own a))->h.get? b=some u->h'.get? b=some u)
  (ho:∀b,H b=some (.own a)->H' b=some (.own a)) (ht:∀b u,Fix u->H b=some u->H' b=some u):ObjOk P w H' h' a o:=by
 induction o with
 | lst xs=>obtain ⟨z,its,n,r,e⟩:=x;exact⟨z,its,n,r,k _ _ (.inl rfl) e⟩
 | tup xs=>obtain ⟨z,its,r,ob,e,c⟩:=x;exact⟨z,its,r,ob,k _ _ (.inl rfl) e,c⟩
 | dK kvs=>obtain ⟨z,y,vs,r,ob,es,ep,e,c⟩:=x;exact⟨z,y,vs,r,ob,es,ep,k _ _ (.inl rfl) e,c⟩
 | dT kvs=>
  obtain ⟨z,y,xs,r,ob,es,ep,e,c⟩:=x;exact⟨z,y,xs,Paired.mapP r λp q z=>⟨z.1,ht _ _ trivial z.2.1,z.2.2⟩,ob,es,ep,k _ _ (.inl rfl) e,c⟩
 | set S n=>obtain ⟨ob,es,ep,t,e,c⟩:=x;exact⟨ob,es,ep,t,k _ _ (.inl rfl) e,c⟩
 | ins C dx fs=>
  obtain ⟨d,z,ne,e,mA,⟨od,es,ep,e2,c⟩,r⟩:=x;exact⟨ho _ d,z,ne,k _ _ (.inl rfl) e,mA,⟨od,es,ep,k _ _ (.inr d) e2,c⟩,r⟩
 | own y=>obtain ⟨ob,e⟩:=x;exact⟨ob,k _ _ (.inl rfl) e⟩
 | xd fs=>obtain ⟨mA,⟨od,es,ep,e,c⟩,r⟩:=x;exact⟨mA,⟨od,es,ep,k _ _ (.inl rfl) e,c⟩,r⟩
 | rng lo hi=>obtain ⟨t,u,v,e⟩:=x;exact⟨t,u,v,k _ _ (.inl rfl) e⟩
 | frz ob u ih=>obtain ⟨e,q⟩:=x;exact⟨k _ _ (.inl rfl) e,ih q⟩
 | tbl ps=>
  obtain ⟨qs,e,tr,g⟩:=x;refine⟨qs,k _ _ (.inl rfl) e,tr,λpos cv z=>?_⟩
  obtain ⟨c',q,tk,e1,e3,e4⟩:=g pos cv z;exact⟨c',q,tk,e1,ht _ _ trivial e3,e4⟩
 | cod q=>
  obtain ⟨c2,o2,vs2,t2,z1,z2,z3⟩:=x;cases z1;exact⟨_,o2,vs2,t2,rfl,k _ _ (.inl rfl) z2,z3⟩
 | met f y=>
  have e:h.get? a=some (PySem.W.methodObj (.ref f) (.ref y)):=x
  show h'.get? a=some (PySem.W.methodObj (.ref f) (.ref y))
  exact k a _ (.inl rfl) e
 | ext φ=>obtain ⟨p,⟨o,e⟩,st⟩:=x;exact⟨st _ _ p λo q=>k _ _ (.inl rfl) q,⟨o,k _ _ (.inl rfl) e⟩,st⟩
theorem HOk.lt (x:HOk P w H h)(e:H a=some o):a<h.objs.size:=(x a o e).lt
theorem HOk.fresh (x:HOk P w H h)(e:h.objs.size<=a):H a=none:=by
 cases q:H a with
 | none=>rfl
 | some u=>exact absurd (Ab8 (x.lt q) e) (Ad9 _)
theorem HOk.kept (x:HOk P w H h)(k:∀b u,h.get? b=some u->h'.get? b=some u):HOk P w H h':=λa o e=>
 (x a o e).stay (λb u _ q=>k b u q) (λ_ q=>q) λ_ _ _ q=>q
theorem HOk.laid (x:HOk P w H h)(k:∀b u,h.get? b=some u->h'.get? b=some u)(hp:h.objs.size<=a)(new:ObjOk P w (upd H a o) h' a o):HOk P w (upd H a o) h':=λb u e=>by
 have hn:=x.fresh hp
 by_cases hb:b=a
 ·subst hb;rw[C0]at e;cases e;exact new
 ·rw[B0 hb]at e;exact(x b u e).stay (λc v _ q=>k c v q) (λc q=>by rw[B0 (C8 q hn)];exact q) λc xs _ q=>by rw[B0 (C8 q hn)];exact q
end
def Rd (H:Hp)(a:Addr)(u:HO):Prop:=H a=some u\/∃o,H a=some (.frz o u)
theorem Rd.ok {P:Program}{w:World}{H:Hp}{h:Heap}{a:Addr}{u:HO}(r:Rd H a u)(x:HOk P w H h):ObjOk P w H h a u:=by
 rcases r with r | ⟨o,r⟩
 ·exact x a u r
 ·obtain ⟨_,q⟩:=x a _ r;exact q
def Mut:Option HO->Prop
 | some (.lst _)=>True
 | some (.dK _)=>True
 | some (.dT _)=>True
 | some (.set _ _)=>True
 | some (.ins _ _ _)=>True
 | some (.ext _)=>True
 | _=>False
section
variable {P:Program}{w:World}{H:Hp}{h h':Heap}{x e:Addr}{o':HO}
theorem HOk.write (ok:HOk P w H h)(mu:Mut (H x))(he:e=x\/H e=some (.own x))(k:∀b u,b≠e->h.get? b=some u->h'.get? b=some u)(heo:∃u,h'.get? e=some u)
  (new:ObjOk P w (upd H x o') h' x o'):HOk P w (upd H x o') h':=λb u q=>by
 have nown:∀c y,H c=some (.own y)->c≠x:=λc y r z=>by subst z;rw[r]at mu;exact mu
 have ntup:∀c u,Fix u->H c=some u->c≠x:=λc u f r z=>by subst z;rw[r]at mu;cases u <;> first | exact f.elim | exact mu.elim
 by_cases hb:b=x
 ·subst hb;rw[C0]at q;cases q;exact new
 ·rw[B0 hb]at q;by_cases hbe:b=e
  ·have q':H b=some (.own x):=by
    rcases he with z | z
    ·exact absurd (hbe.trans z) hb
    ·rw[hbe];exact z
   rw[q]at q';cases q';obtain ⟨v,hv⟩:=heo;exact⟨v,by rw[hbe];exact hv⟩
  ·refine(ok b u q).stay (λc v hc r=>k c v ?_ r) (λc r=>by rw[B0 (nown c b r)];exact r) λc xs f r=>by rw[B0 (ntup c xs f r)];exact r
   rcases hc with rfl | hc
   ·exact hbe
   ·rintro rfl;rcases he with z | z
    ·exact nown c b hc z
    ·rw[hc]at z;cases z;exact hb rfl
end
structure Un (fs ex:List Addr)(H H':Hp)(h h':Heap):Prop where
 keep:∀b o,h.get? b=some o->H b=none->b∉fs->b∉ex->h'.get? b=some o
 slot:∀b o,h.get? b=some o->H b=none->b∈fs->b∉ex->∃sl,h'.get? b=some {o with slots:=sl}
 free:∀b o,h.get? b=some o->H b=none->b∉ex->H' b=none
 there:∀b o,h.get? b=some o->b∉ex->∃o',h'.get? b=some o'
 tups:∀b xs,H b=some (.tup xs)->H' b=some (.tup xs)
 frzs:∀b o u,H b=some (.frz o u)->H' b=some (.frz o u)
 tbls:∀b ps,H b=some (.tbl ps)->∃more,H' b=some (.tbl (ps++more))
section
variable {fs fs' ex ex':List Addr}{H H1 H2:Hp}{h h1 h2 h':Heap}{a x e:Addr}{o:HO}
theorem Un.any (u:Un fs ex H H1 h h1){b:Addr}{ob:Obj}(q:h.get? b=some ob)(n:H b=none)(hx:b∉ex):∃sl,h1.get? b=some {ob with slots:=sl}:=by
 by_cases hb:b∈fs
 ·exact u.slot b ob q n hb hx
 ·exact⟨ob.slots,u.keep b ob q n hb hx⟩
theorem Un.kept (k:∀b u,h.get? b=some u->h'.get? b=some u):Un fs ex H H h h':=
 ⟨λb ob q _ _ _=>k b ob q,λb ob q _ _ _=>⟨ob.slots,k b ob q⟩,λ_ _ _ n _=>n,λb ob q _=>⟨ob,k b ob q⟩,λ_ _ q=>q,λ_ _ _ q=>q,λ_ ps q=>⟨#[],by rw[q];simp⟩⟩
theorem Un.refl:Un fs ex H H h h:=Un.kept λ_ _ q=>q
theorem Un.laid (k:∀b u,h.get? b=some u->h'.get? b=some u)(hp:h.objs.size<=a)(hn:H a=none):Un fs ex H (upd H a o) h h' where
 keep:=λb u q _ _ _=>k b u q
 slot:=λb u q _ _ _=>⟨u.slots,k b u q⟩
 free:=λb u q n _=>by rw[B0 (Ab9 (Ab8 (Ab3 q) hp))];exact n
 there:=λb u q _=>⟨u,k b u q⟩
 tups:=λb xs q=>by rw[B0 (C8 q hn)];exact q
 frzs:=λb u xs q=>by rw[B0 (C8 q hn)];exact q
 tbls:=λb ps q=>⟨#[],by rw[B0 (C8 q hn),q];simp⟩
theorem Un.write (mu:Mut (H x))(he:e=x\/H e=some (.own x))(k:∀b u,b≠e->h.get? b=some u->h'.get? b=some u)(heo:∃u,h'.get? e=some u):Un fs ex H (upd H x o) h h':=by
 have hx:∀b,H b=none->b≠x:=λb n z=>by subst z;rw[n]at mu;exact mu
 have hb:∀b,H b=none->b≠e:=λb n z=>by
  subst z;rcases he with r | r
  ·exact hx b n r
  ·rw[n]at r;cases r
 have hm:∀b u,H b=some u->¬Mut (some u)->b≠x:=λb u q nm z=>by subst z;rw[q]at mu;exact nm mu
 refine⟨λb u q n _ _=>k b u (hb b n) q,λb u q n _ _=>⟨u.slots,k b u (hb b n) q⟩,λb u q n _=>by rw[B0 (hx b n)];exact n,λb u q _=>?_,
  λb xs q=>by rw[B0 (hm b _ q λz=>z)];exact q,λb u xs q=>by rw[B0 (hm b _ q λz=>z)];exact q,λb ps q=>⟨#[],by rw[B0 (hm b _ q λz=>z),q];simp⟩⟩
 by_cases hbe:b=e
 ·subst hbe;exact heo
 ·exact⟨u,k b u hbe q⟩
end
def trk (h:Heap)(H:Hp):List Addr:=(List.range h.objs.size).filter λa=>(H a).isSome
def aN5 (h:Heap)(H:Hp):Heap:=PySem.W.hideAll h (trk h H)
theorem bP7 (h:Heap)(H:Hp):(aN5 h H).objs.size=h.objs.size:=PySem.W.hideAll_size _ _
theorem bX4 {h:Heap}{H:Hp}{b:Addr}{o:Obj}(e:h.get? b=some o)(n:H b=none):(aN5 h H).get? b=some o:=
 PySem.W.hideAll_get _ e λhm=>by
  have q:(H b).isSome=true:=(List.mem_filter.mp hm).2
  rw[n]at q;simp at q
theorem cB3 {h:Heap}{H:Hp}{b:Addr}{o:Obj}(e:(aN5 h H).get? b=some o):h.get? b=some o/\H b=none:=by
 have e':h.get? b=some o:=PySem.W.of_hideAll (trk h H) e
 refine⟨e',?_⟩;cases q:H b with
 | none=>rfl
 | some x=>
  have hm:b∈trk h H:=List.mem_filter.mpr ⟨Ab5.mpr (Ab3 e'),by simp[q]⟩
  have z:(aN5 h H).get? b=none:=PySem.W.hideAll_none (trk h H) hm
  rw[z]at e;cases e
def aW8 (g h:Heap)(L:Addr):List (Addr×Obj):=(List.range h.objs.size).filterMap λa=>if a=L\/(g.get? a).isSome=true then none else(h.get? a).map λo=>(a,o)
theorem q8 {g h:Heap}{L a:Addr}{o:Obj}(h1:a≠L)(h2:g.get? a=none)(h3:h.get? a=some o):(a,o)∈aW8 g h L:=
 List.mem_filterMap.mpr ⟨a,Ab5.mpr (Ab3 h3),by simp[h1,h2,h3]⟩
theorem aL6 {g h:Heap}{L:Addr}{p:Addr×Obj}(hp:p∈aW8 g h L):p.1≠L/\g.get? p.1=none/\h.get? p.1=some p.2:=by
 obtain ⟨b,_,e⟩:=List.mem_filterMap.mp hp;split at e
 ·cases e
 ·rename_i hn;cases q:h.get? b with
  | none=>rw[q]at e;simp at e
  | some u=>
   rw[q]at e;simp only[Option.map_some,Option.some.injEq]at e;subst e;refine⟨λz=>hn (.inl z),?_,q⟩
   show g.get? b=none
   cases r:g.get? b with
   | none=>rfl
   | some v=>exact(hn (.inr (by simp[r]))).elim
theorem bY2 {g h:Heap}{L:Addr}:News g L h (aW8 g h L):=λp hp=>let ⟨a,b,c⟩:=aL6 hp;⟨c,a,b⟩
structure Mod (K:PySem.W.Frag)(mg:Str->Option Value)(base:Heap):Prop where
 kin:K.In base
 glob:base.Ns mainGlobals mg
 blt:∃mb,base.Ns builtinsNs mb/\∀x:Str,x≠"__name__" -> mb x=bootBuiltins x
 nolimit:base.NoLimit
 bm:∃bm ob,mg "__builtins__" = some (.ref bm)/\bm≠builtinsNs/\base.get? bm=some ob/\ob.cls=.type "module" /\ ob.dict=some builtinsNs/\ob.data=.plain
 tbc:∀c P,PySem.W.tabIn K "triple_of" = some (c,P)->PySem.W.CodeHd base c P
def Tb (K:PySem.W.Frag)(H:Hp):Prop:=∀c P,PySem.W.tabIn K "triple_of" = some (c,P)->∃ps t,H P=some (.tbl ps)/\(ps[0]? : Option Value)=some (.str "triple_of.<locals>.<lambda>" t)
theorem Tb.grow {K:PySem.W.Frag}{fs ex:List Addr}{H H':Hp}{h h':Heap}(x:Tb K H)(u:Un fs ex H H' h h'):Tb K H':=λc P e=>by
 obtain ⟨ps,t,e1,e2⟩:=x c P e;obtain ⟨more,e3⟩:=u.tbls P ps e1;refine⟨_,t,e3,?_⟩;have hs:0<ps.size:=by
  rcases Nat.eq_zero_or_pos ps.size with z | z
  ·rw[Array.getElem?_eq_none (by omega)]at e2;cases e2
  ·exact z
 rw[Array.getElem?_append_left hs];exact e2
structure Cx where
 prog:Program
 w:World
 K:PySem.W.Frag
 mg:Str->Option Value
 base:Heap
 A:Around
 N:List Str
 s₀:Shared
 H₀:Hp
 env:Env
 outer:List Env
 stack:List Env
 ex:List Addr
 fn:Str->Bool
 calm:Bool
 pn:List (Addr×Obj)
 xe:Value->Shared->Prop
def frs (l:List Env):List Addr:=l.filterMap (·.frame)
abbrev Cx.fs (X:Cx):List Addr:=frs X.outer
def Vis (sc:Scope)(x:Str):Prop:=sc.names.lookup x=some .local\/sc.names.lookup x=some .cell\/sc.names.lookup x=some .free
def Loc (sc:Scope)(x:Str):Prop:=sc.names.lookup x=some .local\/sc.names.lookup x=some .cell
def cX4 (env:Env)(h:Heap)(m:Str->Option Value)(x:Str)(u:Value):Prop:=
 (env.kindOf x=some .local/\m x=some u)\/((env.kindOf x=some .cell\/env.kindOf x=some .free)/\∃c,env.cells.lookup x=some c/\h.IsCell c (some u))
structure Cx.Ok (X:Cx):Prop where
 mod:Mod X.K X.mg X.base
 kind:X.env.scope.kind=.function
 glob:X.env.globals=mainGlobals
 blt:X.env.builtins=builtinsNs
 above:X.s₀.heap.objs.size<=X.env.locals
 inj:∀x y c,X.env.cells.lookup x=some c->X.env.cells.lookup y=some c->x=y
 has:∀x,(X.env.kindOf x=some .cell\/X.env.kindOf x=some .free)->∃c,X.env.cells.lookup x=some c
 cab:∀x c,X.fn x=true->X.env.cells.lookup x=some c->X.s₀.heap.objs.size<=c
 hd:X.calm=true->X.A.handled=none
 frames:X.A.frames=some X.stack
 stk:X.stack=X.outer\/(X.stack=X.env::X.outer/\X.env.frame=some X.env.locals)
 exf:∀b∈X.ex,b≠X.env.locals/\∀x c,X.env.cells.lookup x=some c->c≠b
 bs:∀b o,X.base.get? b=some o->X.s₀.heap.get? b=some o/\X.H₀ b=none
 bsz:X.base.objs.size<=X.s₀.heap.objs.size
 noex:∀b o,X.base.get? b=some o->b∉X.ex
 exfs:∀b∈X.ex,b∉X.fs
 funs:X.s₀.heap.FunFrames X.base X.outer
 frf:∀b∈X.fs,X.H₀ b=none
 tab:Tb X.K X.H₀
structure Inv (X:Cx)(pins:List (Addr×Obj))(σ:List (Option V))(H:Hp)(s:Shared):Prop where
 ok:X.Ok
 os:s.os=X.s₀.os
 bare:AllBare s.gens
 base:Un X.fs X.ex X.H₀ H X.s₀.heap s.heap
 loc:∃m,s.heap.Ns X.env.locals m/\∀(i:Nat) (x:Str) (v:V),X.N[i]? = some x->σ[i]? = some (some v)->Vis X.env.scope x->∃u,RelV v u/\cX4 X.env s.heap m x u
 cell:∀x c,X.env.cells.lookup x=some c->∃v,s.heap.IsCell c v
 free:H X.env.locals=none
 freeC:∀x c,X.env.cells.lookup x=some c->H c=none
 pin:∀p∈X.pn++pins,s.heap.get? p.1=some p.2/\H p.1=none/\p.1≠X.env.locals/\p.1∉X.fs/\∀v,p.2.data≠.cell v
 hok:HOk X.prog X.w H s.heap
 len:σ.length=X.N.length
section
variable {X:Cx}{pins:List (Addr×Obj)}{σ:List (Option V)}{H H':Hp}{s:Shared}{h':Heap}
theorem Cx.Ok.nofr (ok:X.Ok){b:Addr}{o:Obj}(e:X.base.get? b=some o):b∉X.fs:=λhb=>by
 have:=(ok.funs.mem hb).1
 rw[e]at this;cases this
theorem Inv.bs (I:Inv X pins σ H s):∀b o,X.base.get? b=some o->s.heap.get? b=some o/\H b=none:=λb o e=>
 ⟨I.base.keep b o (I.ok.bs b o e).1 (I.ok.bs b o e).2 (I.ok.nofr e) (I.ok.noex b o e),I.base.free b o (I.ok.bs b o e).1 (I.ok.bs b o e).2 (I.ok.noex b o e)⟩
theorem Inv.bk (I:Inv X pins σ H s):∀b o,X.base.get? b=some o->s.heap.get? b=some o:=λb o e=>(I.bs b o e).1
theorem Inv.mod (I:Inv X pins σ H s):Mod X.K X.mg X.base:=I.ok.mod
theorem Inv.kIn (I:Inv X pins σ H s):X.K.In s.heap:=I.ok.mod.kin.keeps I.bk
theorem Inv.nolimit (I:Inv X pins σ H s):s.heap.NoLimit:=I.ok.mod.nolimit.keeps I.bk
theorem Inv.lt (I:Inv X pins σ H s):X.env.locals<s.heap.objs.size:=let ⟨_,hn,_⟩:=I.loc;hn.lt
theorem Inv.sz (I:Inv X pins σ H s):X.s₀.heap.objs.size<=s.heap.objs.size:=Nat.le_trans I.ok.above (Nat.le_of_lt I.lt)
theorem Inv.nofs (I:Inv X pins σ H s){a:Addr}(h:s.heap.objs.size<=a):a∉X.fs:=λhb=>by
 obtain ⟨_,o,ho,_⟩:=I.ok.funs.mem hb;exact absurd (Ab8 (Ab3 ho) (Nat.le_trans I.sz h)) (Ad9 _)
theorem Inv.cne (I:Inv X pins σ H s):∀x c,X.env.cells.lookup x=some c->c≠X.env.locals:=λx c e z=>by
 obtain ⟨v,o,ho,hd⟩:=I.cell x c e;obtain ⟨m,⟨o',es,ep,ho',hd',_⟩,_⟩:=I.loc;rw[z,ho']at ho;cases ho;rw[hd']at hd;cases hd
theorem Inv.funs (I:Inv X pins σ H s):s.heap.FunFrames X.base X.outer:=by
 have all:∀(l:List Env),(∀b∈frs l,b∈X.fs)->X.s₀.heap.FunFrames X.base l->s.heap.FunFrames X.base l:=by
  intro l;induction l with
  | nil=>intro _ _;trivial
  | cons env r ih=>
   intro hs hl;obtain ⟨hk,⟨L,o,hf,hn,ho,hd⟩,hr⟩:=hl;have hL:L∈X.fs:=hs L (by unfold frs;rw[List.filterMap_cons,hf];exact List.mem_cons_self)
   obtain ⟨sl,e⟩:=I.base.slot L o ho (I.ok.frf L hL) hL λz=>I.ok.exfs L z hL
   exact⟨hk,⟨L,_,hf,hn,e,hd⟩,ih (λb hb=>hs b (by unfold frs;rw[List.filterMap_cons,hf];exact Ad4 _ hb)) hr⟩
 exact all X.outer (λ_ hb=>hb) I.ok.funs
theorem Inv.stack (I:Inv X pins σ H s):s.heap.FunFrames X.base X.stack:=by
 rcases I.ok.stk with e | ⟨e,hf⟩
 ·rw[e];exact I.funs
 ·rw[e];obtain ⟨m,hn,_⟩:=I.loc;refine .cons (by rw[I.ok.kind];decide) hf hn ?_ I.funs
  exact Heap.get?_none_of_le (Nat.le_trans I.ok.bsz I.ok.above)
theorem Inv.stkSub (I:Inv X pins σ H s):∀b∈frs X.stack,b∈X.env.locals::X.fs:=λb hb=>by
 rcases I.ok.stk with e | ⟨e,hf⟩
 ·rw[e]at hb;exact Ad4 _ hb
 ·rw[e]at hb;unfold frs at hb;rw[List.filterMap_cons,hf]at hb;exact hb
theorem Inv.stkFree (I:Inv X pins σ H s):∀b∈frs X.stack,H b=none:=λb hb=>by
 rcases Aa1.mp (I.stkSub b hb) with e | hb
 ·rw[e];exact I.free
 ·obtain ⟨_,o,ho,_⟩:=I.ok.funs.mem hb;exact I.base.free b o ho (I.ok.frf b hb) λz=>I.ok.exfs b z hb
theorem Inv.step {g':Array GenState}{t':Nat}{d':Drawn}{ch:List Addr}(I:Inv X pins σ H s)
  (hch:∀b∈ch,(b∈X.ex\/X.s₀.heap.objs.size<=b)/\b≠X.env.locals/\(∀x c,X.env.cells.lookup x=some c->c≠b)/\∀p∈X.pn++pins,p.1≠b)
  (keep:∀b o,b≠X.env.locals->b∉X.fs->b∉ch->s.heap.get? b=some o->H b=none->h'.get? b=some o)
  (slot:∀b o,b≠X.env.locals->b∈X.fs->b∉ch->s.heap.get? b=some o->H b=none->∃sl,h'.get? b=some {o with slots:=sl}) (free:∀b o,b∉ch->s.heap.get? b=some o->H b=none->H' b=none)
  (there:∀b o,b∉ch->s.heap.get? b=some o->∃o',h'.get? b=some o')
  (tups:∀b xs,H b=some (.tup xs)->H' b=some (.tup xs)) (frzs:∀b o u,H b=some (.frz o u)->H' b=some (.frz o u)) (tbls:∀b ps,H b=some (.tbl ps)->∃more,H' b=some (.tbl (ps++more)))
  (ns:∀m,s.heap.Ns X.env.locals m->h'.Ns X.env.locals m) (hok:HOk X.prog X.w H' h') (hg:AllBare g') :
  Inv X pins σ H' {s with heap:=h',gens:=g',drawn:=d',toks:=t'}:=by
 have neL:∀b o,X.s₀.heap.get? b=some o->b≠X.env.locals:=λb o e=>Ab9 (Ab8 (Ab3 e) I.ok.above)
 have neC:∀b o,X.s₀.heap.get? b=some o->b∉X.ex->b∉ch:=λb o e hx hb=>by
  rcases (hch b hb).1 with z | z
  ·exact hx z
  ·exact absurd (Ab8 (Ab3 e) z) (Ad9 _)
 have cellK:∀x c,X.env.cells.lookup x=some c->∀v,s.heap.IsCell c v->h'.IsCell c v:=λx c e v ⟨o,ho,hd⟩=>by
  have nch:c∉ch:=λz=>(hch c z).2.2.1 x c e rfl
  by_cases hc:c∈X.fs
  ·obtain ⟨sl,q⟩:=slot c o (I.cne x c e) hc nch ho (I.freeC x c e);exact⟨_,q,hd⟩
  ·exact⟨o,keep c o (I.cne x c e) hc nch ho (I.freeC x c e),hd⟩
 refine⟨I.ok,I.os,hg,⟨λb o e n hb hx=>?_,λb o e n hb hx=>?_,λb o e n hx=>?_,λb o e hx=>?_,λb xs e=>tups b xs (I.base.tups b xs e),λb o xs e=>frzs b o xs (I.base.frzs b o xs e),λb ps e=>?_⟩,?_,λx c e=>?_,?_,λx c e=>?_,λp hp=>?_,hok,I.len⟩
 ·exact keep b o (neL b o e) hb (neC b o e hx) (I.base.keep b o e n hb hx) (I.base.free b o e n hx)
 ·obtain ⟨sl,e1⟩:=I.base.slot b o e n hb hx;obtain ⟨sl',e2⟩:=slot b _ (neL b o e) hb (neC b o e hx) e1 (I.base.free b o e n hx);exact⟨sl',e2⟩
 ·obtain ⟨o',e1⟩:=I.base.there b o e hx;exact free b o' (neC b o e hx) e1 (I.base.free b o e n hx)
 ·obtain ⟨o',e1⟩:=I.base.there b o e hx;exact there b o' (neC b o e hx) e1
 ·obtain ⟨m1,e1⟩:=I.base.tbls b ps e;obtain ⟨m2,e2⟩:=tbls b _ e1;exact⟨m1++m2,by rw[e2,Array.append_assoc]⟩
 ·obtain ⟨m,hn,hl⟩:=I.loc;refine⟨m,ns m hn,λi x v e1 e2 e3=>?_⟩
  obtain ⟨u,r,l⟩:=hl i x v e1 e2 e3;refine⟨u,r,?_⟩;rcases l with l | ⟨k,c,e,z⟩
  ·exact .inl l
  ·exact .inr ⟨k,c,e,cellK x c e _ z⟩
 ·obtain ⟨v,z⟩:=I.cell x c e;exact⟨v,cellK x c e v z⟩
 ·obtain ⟨m,⟨o,_,_,ho,_⟩,_⟩:=I.loc;exact free _ o (λz=>(hch _ z).2.1 rfl) ho I.free
 ·obtain ⟨v,o,ho,hd⟩:=I.cell x c e;exact free c o (λz=>(hch c z).2.2.1 x c e rfl) ho (I.freeC x c e)
 ·obtain ⟨e,n,ne,nf,d⟩:=I.pin p hp;have nch:p.1∉ch:=λz=>(hch p.1 z).2.2.2 p hp rfl
  exact⟨keep p.1 p.2 ne nf nch e n,free p.1 p.2 nch e n,ne,nf,d⟩
theorem Inv.un {t':Nat}(I:Inv X pins σ H s)(u:Un X.fs [] H H' s.heap h')(hok:HOk X.prog X.w H' h'):Inv X pins σ H' {s with heap:=h',toks:=t'}:=by
 obtain ⟨m,⟨o,es,ep,ho,r⟩,_⟩:=id I.loc;obtain ⟨sl,hL⟩:=u.any ho I.free (by simp)
 exact I.step (g':=s.gens) (d':=s.drawn) (ch:=[]) (λ_ z=>nomatch z) (λb o _ hb _ e n=>u.keep b o e n hb (by simp)) (λb o _ hb _ e n=>u.slot b o e n hb (by simp)) (λb o _ e n=>u.free b o e n (by simp)) (λb o _ e=>u.there b o e (by simp)) u.tups u.frzs u.tbls (λm' hm=>by
  obtain ⟨o',es',ep',ho',r'⟩:=hm;rw[ho]at ho';cases ho';exact⟨_,es',ep',hL,r'⟩) hok I.bare
theorem Inv.call {g':Array GenState}{t':Nat}{d':Drawn}{ch:List Addr}(I:Inv X pins σ H s)(u:Un (frs X.stack) ch H H' s.heap h')(hok:HOk X.prog X.w H' h')(hg:AllBare g')
  (hch:∀b∈ch,(b∈X.ex\/X.s₀.heap.objs.size<=b)/\b≠X.env.locals/\(∀x c,X.env.cells.lookup x=some c->c≠b)/\∀p∈X.pn++pins,p.1≠b) :
  Inv X pins σ H' {s with heap:=h',gens:=g',drawn:=d',toks:=t'}:=by
 obtain ⟨m,⟨o,es,ep,ho,r⟩,_⟩:=id I.loc;obtain ⟨sl,hL⟩:=u.any ho I.free λz=>(hch _ z).2.1 rfl
 exact I.step (ch:=ch) hch (λb o hL hb hc e n=>u.keep b o e n (λz=>(Aa1.mp (I.stkSub b z)).elim hL hb) hc) (λb o _ _ hc e n=>u.any e n hc) (λb o hc e n=>u.free b o e n hc) (λb o hc e=>u.there b o e hc) u.tups u.frzs u.tbls (λm' hm=>by
  obtain ⟨o',es',ep',ho',r'⟩:=hm;rw[ho]at ho';cases ho';exact⟨_,es',ep',hL,r'⟩) hok hg
theorem Inv.turned {t':Nat}{it:Addr}(I:Inv X pins σ H s)(k:∀b o,b≠it->s.heap.get? b=some o->h'.get? b=some o)(hn:H it=none)(hL:it≠X.env.locals)
  (h1:it∈X.ex\/X.s₀.heap.objs.size<=it) (h2:∀x c,X.env.cells.lookup x=some c->c≠it) (h3:∀p∈X.pn++pins,p.1≠it):Inv X pins σ H {s with heap:=h',toks:=t'}:=by
 have nit:∀b u,H b=some u->b≠it:=λb u e z=>by rw[z,hn]at e;cases e
 refine I.step (g':=s.gens) (d':=s.drawn) (ch:=[it]) (λb hb=>?_) (λb o _ _ hc e _=>k b o (λz=>hc (by simp[z])) e) (λb o _ _ hc e _=>⟨o.slots,k b o (λz=>hc (by simp[z])) e⟩) (λ_ _ _ _ n=>n)
  (λb o hc e=>⟨o,k b o (λz=>hc (by simp[z])) e⟩) (λ_ _ e=>e) (λ_ _ _ e=>e) (λb ps e=>⟨#[],by rw[e];simp⟩) (λm hm=>?_) (λb u e=>?_) I.bare
 ·have e:b=it:=by simpa using hb
  subst e;exact⟨h1,hL,h2,h3⟩
 ·obtain ⟨o,es,ep,ho,r⟩:=hm;exact⟨o,es,ep,k _ o (Ne.symm hL) ho,r⟩
 ·refine(I.hok b u e).stay (λc v hc q=>k c v ?_ q) (λ_ q=>q) λ_ _ _ q=>q
  rcases hc with z | z
  ·rw[z];exact nit b u e
  ·exact nit c _ z
theorem Inv.tok (I:Inv X pins σ H s)(t:Nat):Inv X pins σ H {s with toks:=t}:=I.un (h':=s.heap) (t':=t) Un.refl I.hok
theorem Inv.kept {t':Nat}(I:Inv X pins σ H s)(k:∀b u,s.heap.get? b=some u->h'.get? b=some u):Inv X pins σ H {s with heap:=h',toks:=t'}:=I.un (Un.kept k) (I.hok.kept k)
theorem Inv.laid {a:Addr}{o:HO}{t':Nat}(I:Inv X pins σ H s)(k:∀b u,s.heap.get? b=some u->h'.get? b=some u)(hp:s.heap.objs.size<=a)(new:ObjOk X.prog X.w (upd H a o) h' a o) :
  Inv X pins σ (upd H a o) {s with heap:=h',toks:=t'}:=I.un (Un.laid k hp (I.hok.fresh hp)) (I.hok.laid k hp new)
theorem Inv.write {x e:Addr}{o:HO}{t':Nat}(I:Inv X pins σ H s)(mu:Mut (H x))(he:e=x\/H e=some (.own x))(k:∀b u,b≠e->s.heap.get? b=some u->h'.get? b=some u)(heo:∃u,h'.get? e=some u)
  (new:ObjOk X.prog X.w (upd H x o) h' x o):Inv X pins σ (upd H x o) {s with heap:=h',toks:=t'}:=I.un (Un.write mu he k heo) (I.hok.write mu he k heo new)
theorem Inv.weak {σ':List (Option V)}(I:Inv X pins σ H s)(hl:σ'.length=σ.length)(w:∀(i:Nat) v,σ'[i]? = some (some v)->σ[i]? = some (some v)):Inv X pins σ' H s:=
 ⟨I.ok,I.os,I.bare,I.base,let ⟨m,hn,hl'⟩:=I.loc;⟨m,hn,λi x v e1 e2 e3=>hl' i x v e1 (w i v e2) e3⟩,I.cell,I.free,I.freeC,I.pin,I.hok,hl.trans I.len⟩
theorem Inv.pins_of {pins':List (Addr×Obj)}(I:Inv X pins σ H s)(h:∀p∈pins',s.heap.get? p.1=some p.2/\H p.1=none/\p.1≠X.env.locals/\p.1∉X.fs/\∀v,p.2.data≠.cell v):Inv X pins' σ H s:=
 ⟨I.ok,I.os,I.bare,I.base,I.loc,I.cell,I.free,I.freeC,λp hp=>(Aa0.mp hp).elim (λz=>I.pin p (List.mem_append_left _ z)) (h p),I.hok,I.len⟩
theorem bB3 {N:List Str}(hN:N.Nodup){i j:Nat}{x:Str}(a:N[i]? = some x)(b:N[j]? = some x):i=j:=by
 obtain ⟨h1,e1⟩:=Ab0.mp a;obtain ⟨h2,e2⟩:=Ab0.mp b;exact(List.getElem_inj hN).mp (e1.trans e2.symm)
theorem aP9 {M:Model}{A:Around}{E:Value->Shared->Prop}{i:Nat}{x:Str}{v:V}{u:Value}{Q:Unit->Shared->Prop}(I:Inv X pins σ H s)(hN:X.N.Nodup)(hi:X.N[i]? = some x)(hx:Loc X.env.scope x)(r:RelV v u)
  (h:∀s',Inv X pins (σ.set i (some v)) H s'->(∃a,Heap.SameBut a s.heap s'.heap/\(a=X.env.locals\/X.env.cells.lookup x=some a))->Q () s') (hf:X.fn x=true\/X.env.scope.names.lookup x=some .local:=by first | exact .inl rfl | exact .inr rfl | assumption):wpAny M A (storeName X.env x u) Q E s:=by
 obtain ⟨m,hn,hl⟩:=id I.loc;have hcls:(X.env.scope.kind == .class||(X.env.scope.kind == .module&&X.env.locals != X.env.globals))=false:=by rw[I.ok.kind];rfl
 have hiσ:i<σ.length:=by rw[I.len];exact(Ab0.mp hi).1
 have cne:=I.cne
 have tracked:∀{a:Addr} {h':Heap},(∃o,s.heap.get? a=some o/\H a=none)->Heap.SameBut a s.heap h'->HOk X.prog X.w H h':=λ{a h'} ha hs b ob e=>by
  obtain ⟨_,_,hfree⟩:=ha;refine(I.hok b ob e).stay (λc w' hc q=>(hs.2 c ?_).trans q) (λ_ q=>q) λ_ _ _ q=>q
  rintro rfl;rcases hc with rfl | hc
  ·rw[hfree]at e;cases e
  ·rw[hfree]at hc;cases hc
 rcases hx with hk | hk
 ·refine wpAny_storeName_local hk hn (λh' hn' hs=>?_) hcls
  obtain ⟨oL,_,_,hoL,_⟩:=id hn;refine h _ ⟨I.ok,I.os,I.bare,⟨λb o e n hb hx=>?_,λb o e n hb hx=>?_,I.base.free,λb o e hx=>?_,I.base.tups,I.base.frzs,I.base.tbls⟩,⟨_,hn',λj y v' e1 e2 e3=>?_⟩,λy c e=>?_,I.free,I.freeC,λp hp=>?_,tracked ⟨oL,hoL,I.free⟩ hs,by simpa using I.len⟩ ⟨_,hs,.inl rfl⟩
  ·exact(hs.2 b (Ab9 (Ab8 (Ab3 e) I.ok.above))).trans (I.base.keep b o e n hb hx)
  ·obtain ⟨sl,e1⟩:=I.base.slot b o e n hb hx;exact⟨sl,(hs.2 b (Ab9 (Ab8 (Ab3 e) I.ok.above))).trans e1⟩
  ·obtain ⟨o',e1⟩:=I.base.there b o e hx;exact⟨o',(hs.2 b (Ab9 (Ab8 (Ab3 e) I.ok.above))).trans e1⟩
  ·by_cases hj:j=i
   ·subst hj;rw[hi]at e1;cases e1;rw[List.getElem?_set_self hiσ]at e2;cases e2;exact⟨u,r,.inl ⟨hk,by simp⟩⟩
   ·rw[Ad0 (Ne.symm hj)]at e2;obtain ⟨u',r',q⟩:=hl j y v' e1 e2 e3;refine⟨u',r',?_⟩;rcases q with ⟨k,e⟩ | ⟨k,c,e,z⟩
    ·refine .inl ⟨k,?_⟩
     have:y≠x:=λe=>hj (bB3 hN e1 (e▸hi))
     simp[this,e]
    ·exact .inr ⟨k,c,e,z.sameBut hs (cne y c e)⟩
  ·obtain ⟨w',z⟩:=I.cell y c e;exact⟨w',z.sameBut hs (cne y c e)⟩
  ·obtain ⟨e,n,ne,nf,d⟩:=I.pin p hp;exact⟨(hs.2 p.1 ne).trans e,n,ne,nf,d⟩
 ·have hfn:X.fn x=true:=by
   rcases hf with z | z
   ·exact z
   ·rw[z]at hk;cases hk
  obtain ⟨c,hc⟩:=I.ok.has x (.inl hk);obtain ⟨w',z⟩:=I.cell x c hc;refine wpAny_storeName_cell I.ok.kind hk hc z (λh' hc' hs=>?_)
  obtain ⟨oc,hoc,hocd⟩:=id z;refine h {s with heap:=h'} ⟨I.ok,I.os,I.bare,⟨λb o e n hb hx=>?_,λb o e n hb hx=>?_,I.base.free,λb o e hx=>?_,I.base.tups,I.base.frzs,I.base.tbls⟩,⟨m,hn.sameBut hs (Ne.symm (cne x c hc)),λj y v' e1 e2 e3=>?_⟩,λy c' e=>?_,I.free,I.freeC,λp hp=>?_,tracked ⟨oc,hoc,I.freeC x c hc⟩ hs,by simpa using I.len⟩ ⟨c,hs,.inr hc⟩
  ·exact(hs.2 b (Ab9 (Ab8 (Ab3 e) (I.ok.cab x c hfn hc)))).trans (I.base.keep b o e n hb hx)
  ·obtain ⟨sl,e1⟩:=I.base.slot b o e n hb hx;exact⟨sl,(hs.2 b (Ab9 (Ab8 (Ab3 e) (I.ok.cab x c hfn hc)))).trans e1⟩
  ·obtain ⟨o',e1⟩:=I.base.there b o e hx;exact⟨o',(hs.2 b (Ab9 (Ab8 (Ab3 e) (I.ok.cab x c hfn hc)))).trans e1⟩
  ·by_cases hj:j=i
   ·subst hj;rw[hi]at e1;cases e1;rw[List.getElem?_set_self hiσ]at e2;cases e2;exact⟨u,r,.inr ⟨.inl hk,c,hc,hc'⟩⟩
   ·rw[Ad0 (Ne.symm hj)]at e2;obtain ⟨u',r',q⟩:=hl j y v' e1 e2 e3;refine⟨u',r',?_⟩;rcases q with q | ⟨k,c',e,z'⟩
    ·exact .inl q
    ·refine .inr ⟨k,c',e,z'.sameBut hs ?_⟩;rintro rfl;exact hj (bB3 hN e1 (I.ok.inj _ _ _ e hc▸hi))
  ·by_cases hcc:c'=c
   ·subst hcc;exact⟨_,hc'⟩
   ·obtain ⟨w2,z2⟩:=I.cell y c' e;exact⟨w2,z2.sameBut hs hcc⟩
  ·obtain ⟨e,n,ne,nf,d⟩:=I.pin p hp;refine⟨(hs.2 p.1 ?_).trans e,n,ne,nf,d⟩;intro q;rw[q,hoc]at e;have q':oc=p.2:=Ab4 e;exact d w' (by rw[<- q'];exact hocd)
theorem bC4 {M:Model}{A:Around}{E:Value->Shared->Prop}{i:Nat}{x:Str}{v:V}{u:Value}{Q:Unit->Shared->Prop}(I:Inv X pins σ H s)(hN:X.N.Nodup)(hi:X.N[i]? = some x)(hx:Loc X.env.scope x)(r:RelV v u)
  (h:∀s',Inv X pins (σ.set i (some v)) H s'->Q () s') (hf:X.fn x=true\/X.env.scope.names.lookup x=some .local:=by first | exact .inl rfl | exact .inr rfl | assumption):wpAny M A (storeName X.env x u) Q E s:=
 aP9 I hN hi hx r (λs' I' _=>h s' I') hf
theorem Inv.call' {s':Shared}{ch:List Addr}(I:Inv X pins σ H s)(ho:s'.os=s.os)(u:Un (frs X.stack) ch H H' s.heap s'.heap)(hok:HOk X.prog X.w H' s'.heap)(hg:AllBare s'.gens)
  (hch:∀b∈ch,(b∈X.ex\/X.s₀.heap.objs.size<=b)/\b≠X.env.locals/\(∀x c,X.env.cells.lookup x=some c->c≠b)/\∀p∈X.pn++pins,p.1≠b):Inv X pins σ H' s':=by
 obtain ⟨h',g',d',t',o'⟩:=s';have e:o'=s.os:=ho;subst e;exact I.call (g':=g') (t':=t') (d':=d') u hok hg hch
end
abbrev XK:=Value->Option Addr->Hp->Prop
abbrev St:=List (Option V)
abbrev VK:=V->Hp->Prop
abbrev TE:=St->Hp->VK->Prop
abbrev TT:=St->Hp->(Bool->Hp->Prop)->Prop
abbrev TA:=St->Hp->(List V->Hp->Prop)->Prop
structure aS8 where
 nx:St->Hp->Prop
 rt:VK
 bk:St->Hp->Prop:=λ_ _=>False
 ct:St->Hp->Prop:=λ_ _=>False
abbrev TS:=aS8->St->Hp->Prop
def EP (X:Cx)(pins:List (Addr×Obj))(σ:St)(Q:VK)(u:Value)(s':Shared):Prop:=∃v H',Inv X pins σ H' s'/\RelV v u/\Q v H'
def TP (X:Cx)(pins:List (Addr×Obj))(σ:St)(Q:Bool->Hp->Prop)(b:Bool)(s':Shared):Prop:=∃H',Inv X pins σ H' s'/\Q b H'
def AP (X:Cx)(pins:List (Addr×Obj))(σ:St)(Q:List V->Hp->Prop)(us:List Value)(s':Shared):Prop:=∃vs H',Inv X pins σ H' s'/\Vals vs us/\Q vs H'
def SP (X:Cx)(pins:List (Addr×Obj))(D:aS8)(f:Flow)(s':Shared):Prop:=
 match f with
 | .next=>∃σ' H',Inv X pins σ' H' s'/\D.nx σ' H'
 | .brk=>∃σ' H',Inv X pins σ' H' s'/\D.bk σ' H'
 | .cont=>∃σ' H',Inv X pins σ' H' s'/\D.ct σ' H'
 | .ret u=>∃v σ' H',Inv X pins σ' H' s'/\RelV v u/\D.rt v H'
structure PE (X:Cx)(e:Expr)(t:TE):Prop where
 mk ::
 run :
  ∀(pins:List (Addr×Obj)) (s:Shared) (σ:St) (H:Hp) (Q:VK),Inv X pins σ H s->t σ H Q->wpAny (model X.prog X.w) X.A (eval e X.env) (EP X pins σ Q) X.xe s
instance {X:Cx} {e:Expr} {t:TE}:CoeFun (PE X e t) λ_=>
 (∀(pins:List (Addr×Obj)) (s:Shared) (σ:St) (H:Hp) (Q:VK),Inv X pins σ H s->t σ H Q->wpAny (model X.prog X.w) X.A (eval e X.env) (EP X pins σ Q) X.xe s):=⟨PE.run⟩
structure PT (X:Cx)(e:Expr)(t:TT):Prop where
 mk ::
 run :
  ∀(pins:List (Addr×Obj)) (s:Shared) (σ:St) (H:Hp) (Q:Bool->Hp->Prop),Inv X pins σ H s->t σ H Q->wpAny (model X.prog X.w) X.A (isTrue e X.env (eval e X.env)) (TP X pins σ Q) X.xe s
instance {X:Cx} {e:Expr} {t:TT}:CoeFun (PT X e t) λ_=>
 (∀(pins:List (Addr×Obj)) (s:Shared) (σ:St) (H:Hp) (Q:Bool->Hp->Prop),Inv X pins σ H s->t σ H Q->wpAny (model X.prog X.w) X.A (isTrue e X.env (eval e X.env)) (TP X pins σ Q) X.xe s):=⟨PT.run⟩
structure PW (X:Cx)(e:Expr)(t:TT):Prop where
 mk ::
 run :
  ∀(whole:Sem Value) (pins:List (Addr×Obj)) (s:Shared) (σ:St) (H:Hp) (Q:Bool->Hp->Prop),Inv X pins σ H s->t σ H Q->wpAny (model X.prog X.w) X.A (isTrue e X.env whole) (TP X pins σ Q) X.xe s
instance {X:Cx} {e:Expr} {t:TT}:CoeFun (PW X e t) λ_=>
 (∀(whole:Sem Value) (pins:List (Addr×Obj)) (s:Shared) (σ:St) (H:Hp) (Q:Bool->Hp->Prop),Inv X pins σ H s->t σ H Q->wpAny (model X.prog X.w) X.A (isTrue e X.env whole) (TP X pins σ Q) X.xe s):=⟨PW.run⟩
theorem PW.pt {X:Cx}{e:Expr}{t:TT}(h:PW X e t):PT X e t:=⟨h _⟩
structure PA (X:Cx)(es:List Expr)(t:TA):Prop where
 mk ::
 run :
  ∀(pos:Pos) (pins:List (Addr×Obj)) (s:Shared) (σ:St) (H:Hp) (Q:List V->Hp->Prop),Inv X pins σ H s->t σ H Q->wpAny (model X.prog X.w) X.A (spliced (backTo pos (starEach es X.env))) (AP X pins σ Q) X.xe s
instance {X:Cx} {es:List Expr} {t:TA}:CoeFun (PA X es t) λ_=>
 (∀(pos:Pos) (pins:List (Addr×Obj)) (s:Shared) (σ:St) (H:Hp) (Q:List V->Hp->Prop),Inv X pins σ H s->t σ H Q->wpAny (model X.prog X.w) X.A (spliced (backTo pos (starEach es X.env))) (AP X pins σ Q) X.xe s):=⟨PA.run⟩
structure PS (X:Cx)(st:Stmt)(t:TS):Prop where
 mk ::
 run :
  ∀(pins:List (Addr×Obj)) (s:Shared) (σ:St) (H:Hp) (D:aS8),Inv X pins σ H s->t D σ H->wpAny (model X.prog X.w) X.A (exec st X.env) (SP X pins D) X.xe s
instance {X:Cx} {st:Stmt} {t:TS}:CoeFun (PS X st t) λ_=>
 (∀(pins:List (Addr×Obj)) (s:Shared) (σ:St) (H:Hp) (D:aS8),Inv X pins σ H s->t D σ H->wpAny (model X.prog X.w) X.A (exec st X.env) (SP X pins D) X.xe s):=⟨PS.run⟩
structure PSs (X:Cx)(st:List Stmt)(t:TS):Prop where
 mk ::
 run :
  ∀(pins:List (Addr×Obj)) (s:Shared) (σ:St) (H:Hp) (D:aS8),Inv X pins σ H s->t D σ H->wpAny (model X.prog X.w) X.A (execs st X.env) (SP X pins D) X.xe s
instance {X:Cx} {st:List Stmt} {t:TS}:CoeFun (PSs X st t) λ_=>
 (∀(pins:List (Addr×Obj)) (s:Shared) (σ:St) (H:Hp) (D:aS8),Inv X pins σ H s->t D σ H->wpAny (model X.prog X.w) X.A (execs st X.env) (SP X pins D) X.xe s):=⟨PSs.run⟩
theorem thn {α:Type}{t:Sem α}{Q Q':α->Shared->Prop}{M:Model}{A:Around}{E:Value->Shared->Prop}{s:Shared}(h:wpAny M A t Q E s)(hQ:∀a s,Q a s->Q' a s):wpAny M A t Q' E s:=wpAny_mono h hQ λ_ _ x=>x
section
variable {X:Cx}
def D9 (i:Nat):TE:=λσ H Q=>∃v,σ[i]? = some (some v)/\Q v H
def tC (v:V):TE:=λ_ H Q=>Q v H
theorem cO9 {i:Nat}{x:Str}{pos:Pos}(hN:X.N[i]? = some x)(hv:Vis X.env.scope x)(hd:(x==("__debug__" : Str))=false:=by decide)(hcd:(x==("__classdict__" : Str))=false:=by decide):PE X (.Name x pos) (D9 i):=by
 refine⟨?_⟩;intro pins s σ H Q I h;obtain ⟨v,e,h⟩:=h;obtain ⟨m,hn,hl⟩:=I.loc;obtain ⟨u,r,l⟩:=hl i x v hN e hv;have fin:EP X pins σ Q u s:=⟨v,H,I,r,h⟩;rcases l with ⟨hk,hm⟩ | ⟨hk,c,hc,hcell⟩
 ·exact wpAny_Name (wpAny_loadName_local I.ok.kind hk hn hm fin) hd
 ·rcases hk with hk | hk
  ·exact wpAny_Name (wpAny_loadName_cell I.ok.kind hk hc hcell fin) hd
  ·exact wpAny_Name (wpAny_loadName_free I.ok.kind hk hc hcell fin hcd) hd
theorem A4 {i j pos}:PE X (.Constant (.int i) j pos) (tC (.int i)):=⟨λ_ _ _ H _ I h=>wpAny_Constant_int ⟨.int i,H,I.tok _,⟨_,rfl⟩,h⟩⟩
theorem V7 {b j pos}:PE X (.Constant (.bool b) j pos) (tC (.bl b)):=⟨λ_ _ _ H _ I h=>Constant_bool ⟨.bl b,H,I,rfl,h⟩⟩
theorem cO4 {j pos}:PE X (.Constant .none j pos) (tC .non):=⟨λ_ _ _ H _ I h=>Constant_none ⟨.non,H,I,rfl,h⟩⟩
def Gl (X:Cx)(x:Str):Prop:=X.env.kindOf x=some .globalImplicit
theorem bJ4 {E:Value->Shared->Prop}{pins:List (Addr×Obj)}{s:Shared}{σ:St}{H:Hp}{x:Str}{u:Value}{pos:Pos}{Q:Value->Shared->Prop}(I:Inv X pins σ H s)(hg:Gl X x)(hm:X.mg x=some u)(h:Q u s)
  (hd:(x==("__debug__" : Str))=false:=by decide):wpAny (model X.prog X.w) X.A (eval (.Name x pos) X.env) Q E s:=
 Calls.Name_function_global I.ok.kind hg (Calls.loadGlobal_global (by rw[I.ok.glob];exact I.mod.glob.keeps I.bk) hm h) hd
theorem Y1 {E:Value->Shared->Prop}{pins:List (Addr×Obj)}{s:Shared}{σ:St}{H:Hp}{x:Str}{u:Value}{pos:Pos}{Q:Value->Shared->Prop}(I:Inv X pins σ H s)(hg:Gl X x)(hm:X.mg x=none)(hv:bootBuiltins x=some u)(h:Q u s)
  (hn:x≠"__name__" := by decide) (hd:(x==("__debug__" : Str))=false:=by decide):wpAny (model X.prog X.w) X.A (eval (.Name x pos) X.env) Q E s:=by
 obtain ⟨mb,h1,h2⟩:=I.mod.blt;exact Calls.Name_function_global I.ok.kind hg (Calls.loadGlobal_builtin (by rw[I.ok.glob];exact I.mod.glob.keeps I.bk) hm (by rw[I.ok.blt];exact h1.keeps I.bk) ((h2 x hn).trans hv) h) hd
theorem aT8 {x:Str}{v:V}{u:Value}{pos:Pos}(hg:Gl X x)(hm:X.mg x=some u)(r:RelV v u)(hd:(x==("__debug__" : Str))=false:=by decide):PE X (.Name x pos) (tC v):=⟨λ_ _ _ H _ I h=>bJ4 I hg hm ⟨v,H,I,r,h⟩ hd⟩
theorem cF1 {x:Str}{v:V}{u:Value}{pos:Pos}(hg:Gl X x)(hm:X.mg x=none)(hv:bootBuiltins x=some u)(r:RelV v u)(hn:x≠"__name__" := by decide)(hd:(x==("__debug__" : Str))=false:=by decide):PE X (.Name x pos) (tC v):=⟨λ_ _ _ H _ I h=>Y1 I hg hm hv ⟨v,H,I,r,h⟩ hn hd⟩
def t2I (ta tb:TE)(k:Int->Int->Hp->Prop):St->Hp->Prop:=λσ H=>ta σ H λx H1=>tb σ H1 λy H2=>∃i j,x=.int i/\y=.int j/\k i j H2
variable {a b:Expr}{ta tb:TE}{pos:Pos}
structure PC (X:Cx)(op:CmpOp)(a b:Expr)(t:TE):Prop where
 mk ::
 run :
  ∀(pins:List (Addr×Obj)) (s:Shared) (σ:St) (H:Hp) (Q:VK),Inv X pins σ H s->t σ H Q ->
   wpAny (model X.prog X.w) X.A (eval a X.env) (λv s₁=>wpAny (model X.prog X.w) X.A (eval b X.env) (λu s₂=>wpAny (model X.prog X.w) X.A (compareOp op v u) (EP X pins σ Q) X.xe s₂) X.xe s₁) X.xe s
instance {X:Cx} {op:CmpOp} {a b:Expr} {t:TE}:CoeFun (PC X op a b t) λ_=>
 (∀(pins:List (Addr×Obj)) (s:Shared) (σ:St) (H:Hp) (Q:VK),Inv X pins σ H s->t σ H Q ->
  wpAny (model X.prog X.w) X.A (eval a X.env) (λv s₁=>wpAny (model X.prog X.w) X.A (eval b X.env) (λu s₂=>wpAny (model X.prog X.w) X.A (compareOp op v u) (EP X pins σ Q) X.xe s₂) X.xe s₁) X.xe s):=⟨PC.run⟩
def bP3 (p:Int->Int->Bool)(ta tb:TE):TE:=λσ H Q=>t2I ta tb (λi j H2=>Q (.bl (p i j)) H2) σ H
abbrev tLt:TE->TE->TE:=bP3 λi j=>decide (i<j)
abbrev tLe:TE->TE->TE:=bP3 λi j=>decide (i<=j)
abbrev tGt:TE->TE->TE:=bP3 λi j=>decide (j<i)
abbrev tGe:TE->TE->TE:=bP3 λi j=>decide (j<=i)
abbrev cY0:TE->TE->TE:=bP3 λi j=>decide (i=j)
abbrev cX9:TE->TE->TE:=bP3 λi j => !decide (i=j)
def tB (t:TE):TT:=λσ H Q=>t σ H λx H1=>∃c,x=.bl c/\Q c H1
theorem aA8 {e:Expr}{t:TE}(h:PE X e t)(he:∀whole,isTrue e X.env whole=(do let v <- whole;standAt e.pos;holding [v] (truthy v)):=by intro _;rfl):PT X e (tB t):=by
 refine⟨?_⟩;intro pins s σ H Q I hw;refine isTrue_plain (thn (h pins s σ H _ I hw) λv s1 ⟨x,H1,I1,r1,q1⟩=>?_) (he _)
 obtain ⟨d,rfl,q⟩:=q1;cases r1;exact wpAny_truthy_bool ⟨H1,I1,q⟩
variable {tA tB':TT}{rest:List Expr}
def cV1 (t u:TT):TT:=λσ H Q=>t σ H λc H1=>if c=true then u σ H1 Q else Q false H1
def tOr (t u:TT):TT:=λσ H Q=>t σ H λc H1=>if c=true then Q true H1 else u σ H1 Q
def cO7 (t:TT):TT:=λσ H Q=>t σ H λc H1=>Q (!c) H1
theorem aC9 (ha:PT X a tA):PW X (.BoolOp .And [a] pos) tA:=by
 refine⟨?_⟩;intro wh pins s σ H Q I h;refine isTrue_and (thn (ha pins s σ H Q I h) λc s1 e=>?_)
 cases c with
 | true=>exact isTrue_and_nil e
 | false=>exact e
theorem aG4 (ha:PT X a tA):PW X (.BoolOp .Or [a] pos) tA:=by
 refine⟨?_⟩;intro wh pins s σ H Q I h;refine isTrue_or (thn (ha pins s σ H Q I h) λc s1 e=>?_)
 cases c with
 | false=>exact isTrue_or_nil e
 | true=>exact e
theorem y6 (ha:PT X a tA)(hb:PW X (.BoolOp .And (b::rest) pos) tB'):PW X (.BoolOp .And (a::b::rest) pos) (cV1 tA tB'):=by
 refine⟨?_⟩;intro wh pins s σ H Q I h;refine isTrue_and (thn (ha pins s σ H _ I h) λc s1 ⟨H1,I1,q1⟩=>?_)
 cases c with
 | true=>exact hb wh pins s1 σ H1 Q I1 q1
 | false=>exact⟨H1,I1,q1⟩
theorem w5 (ha:PT X a tA)(hb:PW X (.BoolOp .Or (b::rest) pos) tB'):PW X (.BoolOp .Or (a::b::rest) pos) (tOr tA tB'):=by
 refine⟨?_⟩;intro wh pins s σ H Q I h;refine isTrue_or (thn (ha pins s σ H _ I h) λc s1 ⟨H1,I1,q1⟩=>?_)
 cases c with
 | true=>exact⟨H1,I1,q1⟩
 | false=>exact hb wh pins s1 σ H1 Q I1 q1
theorem r6 (ha:PT X a tA):PT X (.UnaryOp .Not a pos) (cO7 tA):=by
 refine⟨?_⟩;intro pins s σ H Q I h;exact isTrue_not (ha pins s σ H (λc H1=>Q (!c) H1) I h)
def cH7 (ta tb:TE):TE:=λσ H Q=>ta σ H λx H1=>∃c,x=.bl c/\if c=true then tb σ H1 Q else Q (.bl false) H1
def cI0 (ta:TE):TE:=λσ H Q=>ta σ H λx H1=>∃c,x=.bl c/\Q (.bl (!c)) H1
theorem cJ4 {op}{t:TE}(h:PE X a t):PE X (.BoolOp op [a] pos) t:=⟨λpins s σ H Q I hw=>BoolOp_one (h pins s σ H Q I hw)⟩
theorem cI7 (ha:PE X a ta)(hb:PE X (.BoolOp .And (b::rest) pos) tb):PE X (.BoolOp .And (a::b::rest) pos) (cH7 ta tb):=by
 refine⟨?_⟩;intro pins s σ H Q I h;refine BoolOp_and (thn (ha pins s σ H _ I h) λv s1 ⟨x,H1,I1,r1,q1⟩=>?_)
 obtain ⟨c,rfl,q1⟩:=q1;cases r1;refine wpAny_truthy_bool ?_;cases c with
 | true=>exact hb pins s1 σ H1 Q I1 q1
 | false=>exact⟨.bl false,H1,I1,rfl,q1⟩
theorem cM4 (ha:PE X a ta):PE X (.UnaryOp .Not a pos) (cI0 ta):=by
 refine⟨?_⟩;intro pins s σ H Q I h;refine UnaryOp_ (thn (ha pins s σ H _ I h) λv s1 ⟨x,H1,I1,r1,q1⟩=>?_)
 obtain ⟨c,rfl,q1⟩:=q1;cases r1;exact not_of (wpAny_truthy_bool ⟨.bl (!c),H1,I1,rfl,q1⟩)
def tIf (t:TT)(ta tb:TE):TE:=λσ H Q=>t σ H λc H1=>if c=true then ta σ H1 Q else tb σ H1 Q
theorem bB1 {c:Expr}(hc:PT X c tA)(ha:PE X a ta)(hb:PE X b tb):PE X (.IfExp c a b pos) (tIf tA ta tb):=by
 refine⟨?_⟩;intro pins s σ H Q I h;refine wpAny_IfExp (thn (hc pins s σ H _ I h) λd s1 ⟨H1,I1,q1⟩=>?_)
 cases d with
 | true=>exact ha pins s1 σ H1 Q I1 q1
 | false=>exact hb pins s1 σ H1 Q I1 q1
end
def SqL (K:PySem.W.Frag)(H:Hp)(a:Addr)(xs:List V):Prop:=
 Rd H a (.lst xs) \/
  ∃(o:Obj) (its:Array Value) (n:Nat),K.lookup a=some o/\o.cls=.type "list" /\ o.dict=none/\o.data=.seq its n/\its.size<=sizeLine/\Vals xs its.toList
def SqT (K:PySem.W.Frag)(H:Hp)(a:Addr)(xs:List V):Prop:=
 Rd H a (.tup xs) \/
  ∃(o:Obj) (its:Array Value) (n:Nat),K.lookup a=some o/\o.cls=.type "tuple" /\ o.dict=none/\o.data=.seq its n/\its.size<=sizeLine/\Vals xs its.toList
def cW8:Value->Option V
 | .none=>some .non
 | .bool b=>some (.bl b)
 | .int i _=>some (.int i)
 | .str x _=>some (.str x)
 | .bytes b _=>some (.byt b)
 | .float b _=>some (.flt b)
 | .ref a=>some (.ref a)
 | .type n=>some (.ty n)
 | _=>none
theorem RelV.abs {x:V}{u:Value}(r:RelV x u):cW8 u=some x:=by
 cases x with
 | non=>cases r;rfl
 | bl _=>cases r;rfl
 | int _=>obtain ⟨t,rfl⟩:=r;rfl
 | str _=>obtain ⟨t,rfl⟩:=r;rfl
 | byt _=>obtain ⟨t,rfl⟩:=r;rfl
 | flt _=>obtain ⟨t,rfl⟩:=r;rfl
 | ref _=>cases r;rfl
 | ty _=>cases r;rfl
theorem RelV.inj {x y:V}{u:Value}(r:RelV x u)(q:RelV y u):x=y:=Ab4 (r.abs.symm.trans q.abs)
theorem Vals.inj:∀{xs ys:List V} {us:List Value},Vals xs us->Vals ys us->xs=ys
 | _,_,_,.nil,.nil=>rfl
 | _,_,_,.cons r t,.cons r' t'=>by rw[r.inj r',Vals.inj t t']
section
variable {X:Cx}{pins:List (Addr×Obj)}{σ:St}{H:Hp}{s:Shared}{a:Addr}{xs ys:List V}
theorem SqL.of {K:PySem.W.Frag}(h:H a=some (.lst xs)):SqL K H a xs:=.inl (.inl h)
theorem SqT.of {K:PySem.W.Frag}(h:H a=some (.tup xs)):SqT K H a xs:=.inl (.inl h)
theorem Inv.list (I:Inv X pins σ H s)(h:SqL X.K H a xs):∃its:List Value,Vals xs its/\PlainL s.heap a its.toArray/\xs.length<=sizeLine:=by
 rcases h with h | ⟨o,its,n,hk,hc,hd,hs,hz,r⟩
 ·obtain ⟨z,its,n,r,e⟩:=h.ok I.hok;exact⟨its,r,⟨_,n,e,rfl,rfl,rfl⟩,z⟩
 ·refine⟨its.toList,r,⟨o,n,I.kIn a o hk,hc,hd,by simpa using hs⟩,?_⟩
  have e:=r.length
  simp only[Array.length_toList]at e;omega
theorem Inv.tuple0 (I:Inv X pins σ H s)(h:SqT X.K H a xs):∃its:List Value,Vals xs its/\Tup0 s.heap a its.toArray/\xs.length<=sizeLine:=by
 rcases h with h | ⟨o,its,n,hk,hc,hd,hs,hz,r⟩
 ·obtain ⟨z,its,r,p⟩:=h.ok I.hok;exact⟨its,r,p,z⟩
 ·refine⟨its.toList,r,⟨o,I.kIn a o hk,hc,⟨n,by simpa using hs⟩,hd⟩,?_⟩
  have e:=r.length
  simp only[Array.length_toList]at e;omega
theorem Inv.tuple (I:Inv X pins σ H s)(h:SqT X.K H a xs):∃its:List Value,Vals xs its/\IsTup s.heap a its.toArray/\xs.length<=sizeLine:=by
 obtain ⟨its,r,p,z⟩:=I.tuple0 h;exact⟨its,r,p.tup,z⟩
theorem Inv.list_inj (I:Inv X pins σ H s)(h:SqL X.K H a xs)(h':SqL X.K H a ys):xs=ys:=by
 obtain ⟨its,r,⟨o,n,e,_,_,d⟩,_⟩:=I.list h;obtain ⟨its',r',⟨o',n',e',_,_,d'⟩,_⟩:=I.list h';rw[e]at e';cases e';rw[d]at d'
 injection d' with d1 _
 have:its=its':=by simpa using congrArg Array.toList d1
 subst this;exact r.inj r'
theorem Inv.tuple_inj (I:Inv X pins σ H s)(h:SqT X.K H a xs)(h':SqT X.K H a ys):xs=ys:=by
 obtain ⟨its,r,⟨o,e,_,n,d⟩,_⟩:=I.tuple h;obtain ⟨its',r',⟨o',e',_,n',d'⟩,_⟩:=I.tuple h';rw[e]at e';cases e';rw[d]at d'
 injection d' with d1 _
 have:its=its':=by simpa using congrArg Array.toList d1
 subst this;exact r.inj r'
end
abbrev Cx.wish (X:Cx)(E:Value->Shared->Prop):Cx:={X with xe:=E}
abbrev Cx.nox (X:Cx):Cx:=X.wish λ_ _=>False
theorem Cx.Ok.wish {X:Cx}(ok:X.Ok)(E:Value->Shared->Prop):(X.wish E).Ok:=
 ⟨ok.mod,ok.kind,ok.glob,ok.blt,ok.above,ok.inj,ok.has,ok.cab,ok.hd,ok.frames,ok.stk,ok.exf,ok.bs,ok.bsz,ok.noex,ok.exfs,ok.funs,ok.frf,ok.tab⟩
theorem Cx.Ok.unwish {X:Cx}{E:Value->Shared->Prop}(ok:(X.wish E).Ok):X.Ok:=
 ⟨ok.mod,ok.kind,ok.glob,ok.blt,ok.above,ok.inj,ok.has,ok.cab,ok.hd,ok.frames,ok.stk,ok.exf,ok.bs,ok.bsz,ok.noex,ok.exfs,ok.funs,ok.frf,ok.tab⟩
section
variable {X:Cx}{pins:List (Addr×Obj)}{σ:St}{H:Hp}{s:Shared}{E:Value->Shared->Prop}
theorem Inv.wish (I:Inv X pins σ H s)(E:Value->Shared->Prop):Inv (X.wish E) pins σ H s:=⟨I.ok.wish E,I.os,I.bare,I.base,I.loc,I.cell,I.free,I.freeC,I.pin,I.hok,I.len⟩
theorem Inv.unwish (I:Inv (X.wish E) pins σ H s):Inv X pins σ H s:=⟨I.ok.unwish,I.os,I.bare,I.base,I.loc,I.cell,I.free,I.freeC,I.pin,I.hok,I.len⟩
theorem SP.unwish {D:aS8}{f:Flow}{s':Shared}(h:SP (X.wish E) pins D f s'):SP X pins D f s':=by
 cases f with
 | next=>obtain ⟨σ',H',I,q⟩:=h;exact⟨σ',H',I.unwish,q⟩
 | brk=>obtain ⟨σ',H',I,q⟩:=h;exact⟨σ',H',I.unwish,q⟩
 | cont=>obtain ⟨σ',H',I,q⟩:=h;exact⟨σ',H',I.unwish,q⟩
 | ret u=>obtain ⟨v,σ',H',I,r,q⟩:=h;exact⟨v,σ',H',I.unwish,r,q⟩
theorem PSs.nox {st:List Stmt}{t:TS}(h:PSs X.nox st t):PSs X st t:=⟨λpins s σ H D I hw=>
 wpAny_mono (h pins s σ H D (I.wish _) hw) (λ_ _ q=>q.unwish) λ_ _ z=>False.elim z⟩
end
section
variable {X:Cx}{st:Stmt}{rest:List Stmt}{t u:TS}{e:Expr}{te:TE}{pos:Pos}
def cH3:TS:=λD σ H=>D.nx σ H
def cU7 (t u:TS):TS:=λD σ H=>t {D with nx:=u D} σ H
theorem K4:PSs X [] cH3:=⟨λ_ _ σ H _ I h=>wpAny_execs_nil ⟨σ,H,I,h⟩⟩
theorem A5 (h1:PS X st t)(h2:PSs X rest u):PSs X (st::rest) (cU7 t u):=by
 refine⟨?_⟩;intro pins s σ H D I h;refine wpAny_execs_cons (thn (h1 pins s σ H {D with nx:=u D} I h) λf s1 q=>?_)
 cases f with
 | next=>
  obtain ⟨σ',H',I',q⟩:=q;exact h2 pins s1 σ' H' D I' q
 | ret v=>exact q
 | brk=>exact q
 | cont=>exact q
theorem A8 (h1:PS X st t):PSs X [st] t:=by
 refine⟨?_⟩;intro pins s σ H D I h;refine wpAny_execs_cons (thn (h1 pins s σ H D I h) λf s1 q=>?_)
 cases f with
 | next=>exact wpAny_execs_nil q
 | ret v=>exact q
 | brk=>exact q
 | cont=>exact q
theorem Inv.quiet {pins:List (Addr×Obj)}{σ:St}{H:Hp}{s:Shared}(I:Inv X pins σ H s):interactive X.env=false:=by simp[interactive,I.ok.kind]
def aP4 (te:TE):TS:=λD σ H=>te σ H λ_ H1=>D.nx σ H1
theorem H9 (he:PE X e te)(hs:swapsWith e none pos.line X.env=pure false:=by rfl):PS X (.Expr e pos) (aP4 te):=by
 refine⟨?_⟩;intro pins s σ H D I h;exact wpAny_Expr_any (thn (he pins s σ H _ I h) λv s1 ⟨x,H1,I1,r1,q1⟩=>⟨σ,H1,I1,q1⟩) I.quiet hs
def cE9 (te:TE):TS:=λD σ H=>te σ H D.rt
theorem C9 (he:PE X e te):PS X (.Return (some e) pos) (cE9 te):=by
 refine⟨?_⟩;intro pins s σ H D I h;exact wpAny_Return_some (thn (he pins s σ H _ I h) λv s1 ⟨x,H1,I1,r1,q1⟩=>⟨x,σ,H1,I1,r1,q1⟩)
def cM9 (c:TT)(t u:TS):TS:=λD σ H=>c σ H λb H1=>if b=true then t D σ H1 else u D σ H1
theorem R7 {c:Expr}{a b:List Stmt}{tc:TT}(hc:PT X c tc)(ha:PSs X a t)(hb:PSs X b u):PS X (.If c a b pos) (cM9 tc t u):=by
 refine⟨?_⟩;intro pins s σ H D I h;refine wpAny_If (thn (hc pins s σ H _ I h) λd s1 ⟨H1,I1,q1⟩=>?_)
 cases d with
 | true=>exact ha pins s1 σ H1 D I1 q1
 | false=>exact hb pins s1 σ H1 D I1 q1
end
abbrev TG:=V->St->Hp->(St->Hp->Prop)->Prop
abbrev TGs:=List V->St->Hp->(St->Hp->Prop)->Prop
structure PG (X:Cx)(target:Expr)(t:TG):Prop where
 mk ::
 run :
  ∀(pins:List (Addr×Obj)) (s:Shared) (σ:St) (H:Hp) (v:V) (u:Value) (Q:St->Hp->Prop),Inv X pins σ H s->RelV v u->t v σ H Q ->
   wpAny (model X.prog X.w) X.A (assign target X.env u) (λ_ s'=>∃σ' H',Inv X pins σ' H' s'/\Q σ' H') X.xe s
instance {X:Cx} {target:Expr} {t:TG}:CoeFun (PG X target t) λ_=>
 (∀(pins:List (Addr×Obj)) (s:Shared) (σ:St) (H:Hp) (v:V) (u:Value) (Q:St->Hp->Prop),Inv X pins σ H s->RelV v u->t v σ H Q ->
  wpAny (model X.prog X.w) X.A (assign target X.env u) (λ_ s'=>∃σ' H',Inv X pins σ' H' s'/\Q σ' H') X.xe s):=⟨PG.run⟩
structure PGs (X:Cx)(ts:List Expr)(t:TGs):Prop where
 mk ::
 run :
  ∀(pins:List (Addr×Obj)) (s:Shared) (σ:St) (H:Hp) (vs:List V) (us:List Value) (Q:St->Hp->Prop),Inv X pins σ H s->Vals vs us->t vs σ H Q ->
   wpAny (model X.prog X.w) X.A (assignInOrder ((assignEach ts X.env).map (·.2)) us) (λ_ s'=>∃σ' H',Inv X pins σ' H' s'/\Q σ' H') X.xe s
instance {X:Cx} {ts:List Expr} {t:TGs}:CoeFun (PGs X ts t) λ_=>
 (∀(pins:List (Addr×Obj)) (s:Shared) (σ:St) (H:Hp) (vs:List V) (us:List Value) (Q:St->Hp->Prop),Inv X pins σ H s->Vals vs us->t vs σ H Q ->
  wpAny (model X.prog X.w) X.A (assignInOrder ((assignEach ts X.env).map (·.2)) us) (λ_ s'=>∃σ' H',Inv X pins σ' H' s'/\Q σ' H') X.xe s):=⟨PGs.run⟩
abbrev cJ8:=V->V->V->Hp->(Hp->Prop)->Prop
def cS7 (X:Cx)(t:cJ8):Prop:=
 ∀(pins:List (Addr×Obj)) (s:Shared) (σ:St) (H:Hp) (o i v:V) (ov iv u:Value) (Q:Hp->Prop),Inv X pins σ H s->RelV o ov->RelV i iv->RelV v u->t o i v H Q ->
  wpAny (model X.prog X.w) X.A (setItem ov iv u) (λ_ s'=>∃H',Inv X pins σ H' s'/\Q H') X.xe s
abbrev TIp:=V->V->Hp->VK->Prop
section
variable {X:Cx}{pos:Pos}
def N2 (i:Nat):TG:=λv σ H Q=>Q (σ.set i (some v)) H
theorem B4 {i:Nat}{x:Str}(hN:X.N.Nodup)(hi:X.N[i]? = some x)(hx:Loc X.env.scope x)(hf:X.fn x=true\/X.env.scope.names.lookup x=some .local:=by first | exact .inl rfl | exact .inr rfl | assumption):PG X (.Name x pos) (N2 i):=by
 refine⟨?_⟩;intro pins s σ H v u Q I r h;exact wpAny_assign_Name (bC4 I hN hi hx r (λs' I'=>⟨_,H,I',h⟩) hf)
def bE9:TGs:=λvs σ H Q=>vs=[]/\Q σ H
def aE2 (t:TG)(u:TGs):TGs:=λvs σ H Q=>∃v r,vs=v::r/\t v σ H λσ' H'=>u r σ' H' Q
theorem W9:PGs X [] bE9:=by
 refine⟨?_⟩;intro pins s σ H vs us Q I r h;obtain ⟨e,h⟩:=h;subst e;cases r;exact assignInOrder_nil ⟨σ,H,I,h⟩
theorem E8 {e:Expr}{es:List Expr}{t:TG}{u:TGs}(h1:PG X e t)(h2:PGs X es u)
  (hs:(assignEach (e::es) X.env).map (·.2)=assign e X.env::(assignEach es X.env).map (·.2):=by rfl):PGs X (e::es) (aE2 t u):=by
 refine⟨?_⟩;intro pins s σ H vs us Q I r h;obtain ⟨v,vr,e1,h⟩:=h;subst e1;cases r with
 | cons r rr=>
  rw[hs];refine assignInOrder_cons (thn (h1 pins s σ H _ _ _ I r h) λ_ s1 ⟨σ1,H1,I1,q1⟩=>?_)
  exact h2 pins s1 σ1 H1 _ _ Q I1 rr q1
def bU6 (K:PySem.W.Frag)(n:Nat)(t:TGs):TG:=λv σ H Q=>∃a xs,v=.ref a/\SqT K H a xs/\xs.length=n/\t xs σ H Q
theorem p8 {es:List Expr}{k:Nat}{t:TGs}{n:Nat}(hc:X.calm=true)(h:PGs X es t)
  (hn:(assignEach es X.env).length=n:=by rfl) (hst:(assignEach es X.env).findIdx? (·.1)=none:=by rfl):PG X (.Tuple es k pos) (bU6 X.K n t):=by
 refine⟨?_⟩;intro pins s σ H v u Q I r hw;obtain ⟨a,xs,e1,hq,hl,hw⟩:=hw;subst e1;cases r;obtain ⟨its,rv,ht,hz⟩:=I.tuple hq;refine assign_Tuple_tuple (I.ok.hd hc) ht (by simp[hn,<- hl,rv.length]) hst λh' hx=>?_
 have I1:Inv X pins σ H {s with heap:=h'}:=I.kept (t':=s.toks) λb o e=>hx b o (Ab9 (Ab3 e)) e
 exact h pins _ σ H xs _ Q I1 (by simpa using rv) hw
def cJ3 (to ti:TE)(t:cJ8):TG:=λv σ H Q=>to σ H λo H1=>ti σ H1 λi H2=>t o i v H2 λH3=>Q σ H3
theorem bF9 {o i:Expr}{to ti:TE}{t:cJ8}(ho:PE X o to)(hi:PE X i ti)(hs:cS7 X t)
  (ha:∀v,assign (.Subscript o i pos) X.env v=(do
   let ov <- holding [v] (eval o X.env)
   let iv <- holding [v,ov] (eval i X.env)
   standAt pos
   holding [v,ov,iv] (setItem ov iv v)
   release [v,ov,iv] []):=by intro _;rfl):PG X (.Subscript o i pos) (cJ3 to ti t):=by
 refine⟨?_⟩;intro pins s σ H v u Q I r h;rw[ha];refine wpAny_bind (wpAny_holding (thn (ho pins s σ H _ I h) λov s1 ⟨x,H1,I1,r1,q1⟩=>?_))
 refine wpAny_bind (wpAny_holding (thn (hi pins s1 σ H1 _ I1 q1) λiv s2 ⟨y,H2,I2,r2,q2⟩=>?_))
 refine wpAny_bind (wpAny_standAt (wpAny_bind (wpAny_holding (thn (hs pins s2 σ H2 x y v ov iv u _ I2 r1 r2 r q2) λ_ s3 ⟨H3,I3,q3⟩=>?_))))
 exact wpAny_release ⟨σ,H3,I3,q3⟩
def aO4 (te:TE)(g:TG):TS:=λD σ H=>te σ H λx H1=>g x σ H1 D.nx
theorem aB0 {tg e:Expr}{te:TE}{g:TG}(he:PE X e te)(hg:PG X tg g)(hs:swapsWithSole [tg] e pos.line X.env=pure false:=by rfl)(hw:swappedStores [tg] e X.env=pure none:=by rfl)
  (h1:(assignEach [tg] X.env).map (·.2)=[assign tg X.env]:=by rfl):PS X (.Assign [tg] e pos) (aO4 te g):=by
 refine⟨?_⟩;intro pins s σ H D I h;refine wpAny_Assign_stores (thn (he pins s σ H _ I h) λv s1 ⟨x,H1,I1,r1,q1⟩=>?_) hs hw
 rw[h1];exact thn (hg pins s1 σ H1 x v _ I1 r1 q1) λ_ s2 q=>q
theorem B6 {i:Nat}{x:Str}{e:Expr}{te:TE}{pos':Pos}(hN:X.N.Nodup)(hi:X.N[i]? = some x)(hx:Loc X.env.scope x)(he:PE X e te)(hs:swapsWith e (some (.Name x pos')) pos.line X.env=pure false:=by rfl)(hf:X.fn x=true\/X.env.scope.names.lookup x=some .local:=by first | exact .inl rfl | exact .inr rfl | assumption) :
  PS X (.Assign [.Name x pos'] e pos) (aO4 te (N2 i)):=by
 refine⟨?_⟩;intro pins s σ H D I h;refine wpAny_Assign_Name (thn (he pins s σ H _ I h) λv s1 ⟨y,H1,I1,r1,q1⟩=>?_) hs
 exact bC4 I1 hN hi hx r1 (λs2 I2=>⟨_,H1,I2,q1⟩) hf
end
section
variable {X:Cx}{pos:Pos}
def bZ6 (c:TT)(tb:TS):TS:=λD σ H=>∃W:Nat->St->Hp->Prop,(∃m,W m σ H)/\∀m σ H,W m σ H ->
 c σ H λb H1=>if b=true then ∃N:St->Hp->Prop,(∀σ' H',N σ' H'->∃m',m'<m/\W m' σ' H')/\tb {D with nx:=N,ct:=N,bk:=D.nx} σ H1 else D.nx σ H1
theorem aM2 {c:Expr}{body:List Stmt}{tc:TT}{tb:TS}(hp:PassesOwn (model X.prog X.w) X.A X.env X.xe)(hc:PT X c tc)(hb:PSs X body tb):PS X (.While c body [] pos) (bZ6 tc tb):=by
 refine⟨?_⟩;intro pins s σ H D I h;obtain ⟨W,⟨m0,w0⟩,turn⟩:=h;refine wpAny_While (codeAny_whileLoop (λn s'=>∃σ' H',Inv X pins σ' H' s'/\W n σ' H') ?_ m0 ⟨σ,H,I,w0⟩)
 rintro n s1 ⟨σ1,H1,I1,w1⟩;refine wpAny_passesOwn hp (thn (hc pins s1 σ1 H1 _ I1 (turn n σ1 H1 w1)) λb s2 ⟨H2,I2,q2⟩=>?_)
 cases b with
 | true=>
  obtain ⟨N,hN,q2⟩:=q2;rw[if_pos rfl];refine wpAny_passesOwn hp (thn (hb pins s2 σ1 H2 _ I2 q2) λf s3 q3=>?_)
  cases f with
  | next=>
   obtain ⟨σ3,H3,I3,n3⟩:=q3;obtain ⟨m',hm,w3⟩:=hN σ3 H3 n3;exact⟨m',hm,σ3,H3,I3,w3⟩
  | cont=>
   obtain ⟨σ3,H3,I3,n3⟩:=q3;obtain ⟨m',hm,w3⟩:=hN σ3 H3 n3;exact⟨m',hm,σ3,H3,I3,w3⟩
  | brk=>exact q3
  | ret v=>exact q3
 | false=>
  rw[if_neg Bool.false_ne_true];exact wpAny_execs_nil ⟨σ1,H2,I2,q2⟩
end
structure It where
 go:Nat->Hp->Prop
 yld:Nat->Hp->V->Hp->Prop
 stop:Nat->Hp->Prop
def aM4 (X:Cx)(pins:List (Addr×Obj))(H:Hp)(b:Addr):Prop:=
 H b=none/\b≠X.env.locals/\b∉X.fs/\(b∈X.ex\/X.s₀.heap.objs.size<=b)/\(∀x c,X.env.cells.lookup x=some c->c≠b)/\∀p∈X.pn++pins,p.1≠b
theorem Inv.fpOk {X:Cx}{pins:List (Addr×Obj)}{σ:St}{H H':Hp}{s:Shared}{b:Addr}(I:Inv X pins σ H s)(hb:s.heap.objs.size<=b)(hn:H' b=none):aM4 X pins H' b:=by
 refine⟨hn,Nat.ne_of_gt (Ab8 I.lt hb),I.nofs hb,.inr (Nat.le_trans I.sz hb),λx c e z=>?_,λp hp z=>?_⟩
 ·obtain ⟨v,q⟩:=I.cell x c e;exact absurd (Ab8 q.lt (by rw[z];exact hb)) (Ad9 _)
 ·exact absurd (Ab8 (Ab3 (I.pin p hp).1) (by rw[z];exact hb)) (Ad9 _)
structure bH3 (P:Program)(w:World)(K:PySem.W.Frag)(tg:Expr)(J:It)(fp:List Addr)(it:Addr)(tn:Nat->Heap->Prop):Prop where
 mem:it∈fp
 obj:∀i h,tn i h->∀b∈fp,∃o,h.get? b=some o/\∀v,o.data≠.cell v
 keep:∀i h h',tn i h->(∀b∈fp,∀o,h.get? b=some o->h'.get? b=some o)->tn i h'
 item:∀(X:Cx),X.prog=P->X.w=w->X.K=K->X.calm=true->∀(i:Nat) (pins:List (Addr×Obj)) (s:Shared) (σ:St) (H:Hp) (E:Value->Shared->Prop),Inv X pins σ H s->(∀b∈fp,aM4 X pins H b)->tn i s.heap->J.go i H ->
  wpAny (model P w) X.A (pyNext (.ref it)) (λr s1=>∃u,r=some u /\
   wpAny (model P w) X.A (letOwnedTupleGo tg (.ref it) u) (λ_ s2=>∃x H',Inv X pins σ H' s2/\RelV x u/\J.yld i H x H'/\tn (i+1) s2.heap/\∀b∈fp,H' b=none) E s1) E s
 done:∀(X:Cx),X.prog=P->X.w=w->X.K=K->X.calm=true->∀(i:Nat) (pins:List (Addr×Obj)) (s:Shared) (σ:St) (H:Hp) (E:Value->Shared->Prop),Inv X pins σ H s->(∀b∈fp,aM4 X pins H b)->tn i s.heap->J.stop i H ->
  wpAny (model P w) X.A (pyNext (.ref it)) (λr s1=>r=none/\Inv X pins σ H s1) E s
 self:∀(A:Around) (i:Nat) (s:Shared) (Q:Value->Shared->Prop) (E:Value->Shared->Prop),tn i s.heap->Q (.ref it) s->wpAny (model P w) A (pyIter (.ref it)) Q E s
abbrev TI:=St->Hp->(It->Hp->Prop)->Prop
def PIE (X:Cx)(pins:List (Addr×Obj))(σ:St)(tg:Expr)(R:It->Hp->Prop)(itv:Value)(s2:Shared):Prop:=
 ∃(it:Addr) (fp:List Addr) (tn:Nat->Heap->Prop) (J:It) (H':Hp),itv=.ref it/\Inv X pins σ H' s2/\bH3 X.prog X.w X.K tg J fp it tn/\tn 0 s2.heap/\(∀b∈fp,aM4 X pins H' b)/\R J H'
structure PI (X:Cx)(tg iter:Expr)(wi:TI):Prop where
 mk ::
 run :
  ∀(pins:List (Addr×Obj)) (s:Shared) (σ:St) (H:Hp) (R:It->Hp->Prop),Inv X pins σ H s->wi σ H R ->
   wpAny (model X.prog X.w) X.A (eval iter X.env) (λv s1=>wpAny (model X.prog X.w) X.A (pyIter v) (PIE X pins σ tg R) X.xe s1) X.xe s
instance {X:Cx} {tg iter:Expr} {wi:TI}:CoeFun (PI X tg iter wi) λ_=>
 (∀(pins:List (Addr×Obj)) (s:Shared) (σ:St) (H:Hp) (R:It->Hp->Prop),Inv X pins σ H s->wi σ H R ->
  wpAny (model X.prog X.w) X.A (eval iter X.env) (λv s1=>wpAny (model X.prog X.w) X.A (pyIter v) (PIE X pins σ tg R) X.xe s1) X.xe s):=⟨PI.run⟩
theorem bS5 {M:Model}{A:Around}{E:Value->Shared->Prop}{s:Shared}{tg:Expr}{it:Addr}{u:Value}{o:Obj}{n:String}{vs:Array Value}{Q:Unit->Shared->Prop}(ho:s.heap.get? it=some o)(hc:o.cls=.type n)(hd:o.data=.fields vs)
  (hn:["enumerate", "zip", "dict_itemiterator", "dict_reverseitemiterator", "odict_iterator", "itertools.zip_longest", "itertools.pairwise"].contains n=false) (hQ:Q () s):wpAny M A (letOwnedTupleGo tg (.ref it) u) Q E s:=by
 unfold letOwnedTupleGo;cases tg <;> first
  | exact wpAny_pure hQ
  | (cases u <;> first
    | exact wpAny_pure hQ
    | (refine wpAny_bind (wpAny_load ho ?_)
       rw[hc,hd];show wpAny M A (if(["enumerate", "zip", "dict_itemiterator", "dict_reverseitemiterator", "odict_iterator", "itertools.zip_longest", "itertools.pairwise"].contains n&&vs[0]? == some (rawInt _))=true then _ else _) Q E s;rw[if_neg (by intro h;rw[hn,Bool.false_and]at h;cases h)]
       exact wpAny_pure hQ))
def Itl (K:PySem.W.Frag)(a:Addr):It:=
 ⟨λi H=>∃xs x,SqL K H a xs/\xs[i]? = some x,λi H x H'=>H'=H/\∀xs,SqL K H a xs->xs[i]? = some x,λi H=>∃xs,SqL K H a xs/\xs.length<=i⟩
def Itt (K:PySem.W.Frag)(a:Addr):It:=
 ⟨λi H=>∃xs x,SqT K H a xs/\xs[i]? = some x,λi H x H'=>H'=H/\∀xs,SqT K H a xs->xs[i]? = some x,λi H=>∃xs,SqT K H a xs/\xs.length<=i⟩
def Itr (lo:Int)(n:Nat):It:=⟨λi _=>i<n,λi H x H'=>H'=H/\x=.int (lo+i),λi _=>n<=i⟩
theorem bQ0 {P:Program}{w:World}{K:PySem.W.Frag}{tg:Expr}(a it:Addr):bH3 P w K tg (Itl K a) [it] it (λi h=>h.IsListIter it a i) where
 mem:=by simp
 obj:=λi h st b hb=>by
  have e:b=it:=by simpa using hb
  subst e;obtain ⟨o,e,c,d⟩:=st;exact⟨o,e,λv z=>by rw[d]at z;cases z⟩
 keep:=λi h h' st k=>st.at λo e=>k it (by simp) o e
 item:=by
  intro X hP hw hK hc i pins s σ H E I hf st hg;subst hP hw hK;obtain ⟨xs,x,hq,hx⟩:=hg;obtain ⟨its,rv,p,hz⟩:=I.list hq;obtain ⟨u,hu,ru⟩:=rv.get hx;obtain ⟨f0,f1,f2,f3,f4,f5⟩:=hf it (by simp)
  refine wpAny_pyNext_list_item st p.isList (x:=u) (by simpa using hu) λh' st' sb=>?_
  have I1:Inv X pins σ H {s with heap:=h'}:=I.turned (t':=s.toks) (λb o hb e=>(sb.2 b hb).trans e) f0 f1 f3 f4 f5
  obtain ⟨o,e,c,d⟩:=id st';exact⟨u,rfl,bS5 (s:={s with heap:=h'}) e c d (by decide) ⟨x,H,I1,ru,⟨rfl,λys hy=>by rw[I.list_inj hy hq];exact hx⟩,st',λb hb=>(hf b hb).1⟩⟩
 done:=by
  intro X hP hw hK hc i pins s σ H E I hf st hg;subst hP hw hK;obtain ⟨xs,hq,hx⟩:=hg;obtain ⟨its,rv,p,hz⟩:=I.list hq;obtain ⟨f0,f1,f2,f3,f4,f5⟩:=hf it (by simp)
  have hl:=rv.length
  exact wpAny_pyNext_list_end (I.ok.hd hc) st p.isList (by simp;omega) λh' eb=>⟨rfl,I.turned (t':=s.toks) (λb o hb e=>eb b o hb e) f0 f1 f3 f4 f5⟩
 self:=λ_ _ _ _ _ st h=>wpAny_pyIter_listiter st h
theorem bF6 {P:Program}{w:World}{K:PySem.W.Frag}{tg:Expr}(a it:Addr):bH3 P w K tg (Itt K a) [it] it (λi h=>h.IsTupleIter it a i) where
 mem:=by simp
 obj:=λi h st b hb=>by
  have e:b=it:=by simpa using hb
  subst e;obtain ⟨o,e,c,d⟩:=st;exact⟨o,e,λv z=>by rw[d]at z;cases z⟩
 keep:=λi h h' st k=>st.at λo e=>k it (by simp) o e
 item:=by
  intro X hP hw hK hc i pins s σ H E I hf st hg;subst hP hw hK;obtain ⟨xs,x,hq,hx⟩:=hg;obtain ⟨its,rv,p,hz⟩:=I.tuple hq;obtain ⟨u,hu,ru⟩:=rv.get hx;obtain ⟨f0,f1,f2,f3,f4,f5⟩:=hf it (by simp)
  refine wpAny_pyNext_tuple_item st (show s.heap.IsTuple a its.toArray from p) (x:=u) (by simpa using hu) λh' st' sb=>?_
  have I1:Inv X pins σ H {s with heap:=h'}:=I.turned (t':=s.toks) (λb o hb e=>(sb.2 b hb).trans e) f0 f1 f3 f4 f5
  obtain ⟨o,e,c,d⟩:=id st';exact⟨u,rfl,bS5 (s:={s with heap:=h'}) e c d (by decide) ⟨x,H,I1,ru,⟨rfl,λys hy=>by rw[I.tuple_inj hy hq];exact hx⟩,st',λb hb=>(hf b hb).1⟩⟩
 done:=by
  intro X hP hw hK hc i pins s σ H E I hf st hg;subst hP hw hK;obtain ⟨xs,hq,hx⟩:=hg;obtain ⟨its,rv,p,hz⟩:=I.tuple hq;obtain ⟨f0,f1,f2,f3,f4,f5⟩:=hf it (by simp)
  have hl:=rv.length
  exact wpAny_pyNext_tuple_end (I.ok.hd hc) st (show s.heap.IsTuple a its.toArray from p) (by simp;omega) λh' eb=>⟨rfl,I.turned (t':=s.toks) (λb o hb e=>eb b o hb e) f0 f1 f3 f4 f5⟩
 self:=λ_ _ _ _ _ st h=>wpAny_pyIter_tupleiter st h
theorem bG4 {P:Program}{w:World}{K:PySem.W.Frag}{tg:Expr}(it:Addr)(lo:Int)(n:Nat):bH3 P w K tg (Itr lo n) [it] it (λi h=>IsRangeIter h it (lo+(i:Nat)*1) ((n:Int)-(i:Nat)) 1) where
 mem:=by simp
 obj:=λi h st b hb=>by
  have e:b=it:=by simpa using hb
  subst e;exact⟨_,st,λv z=>by
   have z':Data.fields _=Data.cell v:=z
   cases z'⟩
 keep:=λi h h' st k=>k it (by simp) _ st
 item:=by
  intro X hP hw hK hc i pins s σ H E I hf st hg;subst hP hw hK;obtain ⟨f0,f1,f2,f3,f4,f5⟩:=hf it (by simp)
  have W:=Walks.range (prog:=X.prog) (w:=X.w) (I.ok.hd hc) it lo 1 n
  refine W.item i s _ _ hg st λv h' tk hv st' kk=>?_
  obtain ⟨t,rfl⟩:=hv;have I1:Inv X pins σ H {s with heap:=h',toks:=tk}:=I.turned (λb o hb e=>kk b o (by simpa using hb) e) f0 f1 f3 f4 f5
  refine⟨_,rfl,bS5 (s:={s with heap:=h',toks:=tk}) (n := "range_iterator") st' rfl rfl (by decide) ⟨.int (lo+i),H,I1,⟨t,?_⟩,⟨rfl,rfl⟩,st',λb hb=>(hf b hb).1⟩⟩
  rw[Int.mul_one]
 done:=by
  intro X hP hw hK hc i pins s σ H E I hf st hg;subst hP hw hK;obtain ⟨f0,f1,f2,f3,f4,f5⟩:=hf it (by simp)
  exact wpAny_pyNext_range_end (I.ok.hd hc) st (by have:n<=i:=hg;omega) λh' eb=>⟨rfl,I.turned (t':=s.toks) (λb o hb e=>eb b o hb e) f0 f1 f3 f4 f5⟩
 self:=λ_ _ _ _ _ st h=>wpAny_pyIter_rangeiter st h
section
variable {X:Cx}{tg:Expr}
def bY5 (K:PySem.W.Frag)(tl:TE):TI:=λσ H R=>tl σ H λx H1=>∃a,x=.ref a/\(∃xs,SqL K H1 a xs)/\R (Itl K a) H1
def cT1 (K:PySem.W.Frag)(tl:TE):TI:=λσ H R=>tl σ H λx H1=>∃a,x=.ref a/\(∃xs,SqT K H1 a xs)/\R (Itt K a) H1
theorem aJ2 {l:Expr}{tl:TE}(hl:PE X l tl):PI X tg l (bY5 X.K tl):=by
 refine⟨?_⟩;intro pins s σ H R I h;refine thn (hl pins s σ H _ I h) λv s1 ⟨x,H1,I1,r1,q1⟩=>?_
 obtain ⟨a,e,⟨xs,hq⟩,q⟩:=q1;subst e;cases r1;obtain ⟨its,rv,p,hz⟩:=I1.list hq;refine wpAny_pyIter_list p.isList ?_;refine⟨s1.heap.objs.size,[s1.heap.objs.size],_,_,H1,rfl,I1.kept (t':=s1.toks) λb o e=>Aa6 _ e,bQ0 a _,⟨_,Ac3 _ rfl,rfl,rfl⟩,λb hb=>?_,q⟩
 have e:b=s1.heap.objs.size:=by simpa using hb
 subst e;exact I1.fpOk (Aa7 _) (I1.hok.fresh (Aa7 _))
theorem X7 {l:Expr}{tl:TE}(hl:PE X l tl):PI X tg l (cT1 X.K tl):=by
 refine⟨?_⟩;intro pins s σ H R I h;refine thn (hl pins s σ H _ I h) λv s1 ⟨x,H1,I1,r1,q1⟩=>?_
 obtain ⟨a,e,⟨xs,hq⟩,q⟩:=q1;subst e;cases r1;obtain ⟨its,rv,p,hz⟩:=I1.tuple hq;refine wpAny_pyIter_tuple (show s1.heap.IsTuple a its.toArray from p) ?_
 refine⟨s1.heap.objs.size,[s1.heap.objs.size],_,_,H1,rfl,I1.kept (t':=s1.toks) λb o e=>Aa6 _ e,bF6 a _,⟨_,Ac3 _ rfl,rfl,rfl⟩,λb hb=>?_,q⟩
 have e:b=s1.heap.objs.size:=by simpa using hb
 subst e;exact I1.fpOk (Aa7 _) (I1.hok.fresh (Aa7 _))
theorem bC8 {pins:List (Addr×Obj)}{σ:St}{H:Hp}{s:Shared}{R:It->Hp->Prop}{E:Value->Shared->Prop}{lo hi:Int}{t u v:Tok}{tk:Nat}(I:Inv X pins σ H s)(h1 : -(2^62)<=lo)(h2:lo<2^62)(h3 : -(2^62)<=hi)(h4:hi<2^62)
  (q:R (Itr lo (hi-lo).toNat) H):wpAny (model X.prog X.w) X.A (pyIter (.ref s.heap.objs.size)) (PIE X pins σ tg R) E {s with heap:=s.heap.push {cls:=.type "range",data:=.fields #[.int lo t,.int hi u,.int 1 v]},toks:=tk}:=by
 refine wpAny_pyIter_range (IsRange.new ..) (small_one h1 h2 h3 h4) ?_;have I1:Inv X pins σ H {s with heap:=s.heap.push {cls:=.type "range",data:=.fields #[.int lo t,.int hi u,.int 1 v]},toks:=tk}:=I.kept λb o e=>Aa6 _ e
 refine⟨(s.heap.push {cls:=.type "range",data:=.fields #[.int lo t,.int hi u,.int 1 v]}).objs.size,[(s.heap.push {cls:=.type "range",data:=.fields #[.int lo t,.int hi u,.int 1 v]}).objs.size],_,_,H,rfl,
  I1.kept (t':=tk) λb o e=>Aa6 _ e,bG4 _ lo (hi-lo).toNat,?_,λb hb=>?_,q⟩
 ·have e1:lo+((0:Nat):Int)*1=lo:=by simp
  have e2:(((hi-lo).toNat:Nat):Int)-((0:Nat):Int)=Builtin.Range.rangeSize lo hi 1:=by rw[rangeSize_one];split <;> omega
  show IsRangeIter _ _ (lo+((0:Nat):Int)*1) ((((hi-lo).toNat:Nat):Int)-((0:Nat):Int)) 1
  rw[e1,e2];exact Ac3 _ rfl
 ·have e:b=(s.heap.push {cls:=.type "range",data:=.fields #[.int lo t,.int hi u,.int 1 v]}).objs.size:=by simpa using hb
  subst e;exact I1.fpOk (Aa7 _) (I1.hok.fresh (Aa7 _))
def cG0 (ta:TA):TI:=λσ H R=>ta σ H λvs H1=>∃j:Int,vs=[.int j] /\ -(2^62)<=j/\j<2^62/\R (Itr 0 j.toNat) H1
def cH5 (ta:TA):TI:=λσ H R=>ta σ H λvs H1=>∃i j:Int,vs=[.int i,.int j]/\(-(2^62)<=i/\i<2^62 /\ -(2^62)<=j/\j<2^62)/\R (Itr i (j-i).toNat) H1
theorem G4 {a:Expr}{ta:TA}{p pos:Pos}(hg:Gl X "range")(hm:X.mg "range" = none)(ha:PA X [a] ta)(hs:starEach [a] X.env=[(false,eval a X.env)]:=by rfl):PI X tg (.Call (.Name "range" p) [a] [] pos) (cG0 ta):=by
 refine⟨?_⟩;intro pins s σ H R I h;refine Call_ (Y1 I hg hm boot_range (PyProof.Rows.callWith_type1 (thn (ha pos pins s σ H _ I h) λus s1 ⟨vs,H1,I1,r1,q1⟩=>?_) hs rfl))
 obtain ⟨j,e,q1,q2,q⟩:=q1;subst e;cases r1 with
 | cons r rr=>
  cases rr
  obtain ⟨t,rfl⟩:=r;exact call_range_1 (bC8 I1 (by omega) (by omega) q1 q2 (by simpa using q))
theorem bO9 {a b:Expr}{ta:TA}{p pos:Pos}(hg:Gl X "range")(hm:X.mg "range" = none)(ha:PA X [a,b] ta)(hs:starEach [a,b] X.env=[(false,eval a X.env),(false,eval b X.env)]:=by rfl)(hs2:starEach [b] X.env=[(false,eval b X.env)]:=by rfl) :
  PI X tg (.Call (.Name "range" p) [a,b] [] pos) (cH5 ta):=by
 refine⟨?_⟩;intro pins s σ H R I h;refine Call_ (Y1 I hg hm boot_range (PyProof.Rows.callWith_type1 (thn (ha pos pins s σ H _ I h) λus s1 ⟨vs,H1,I1,r1,q1⟩=>?_) (by rw[hs,hs2]) (by rw[hs2];rfl)))
 obtain ⟨i,j,e,⟨q1,q2,q3,q4⟩,q⟩:=q1;subst e;cases r1 with
 | cons r rr=>
  cases rr with
  | cons r' rr=>
   cases rr
   obtain ⟨t,rfl⟩:=r;obtain ⟨t',rfl⟩:=r';exact call_range_2 (bC8 I1 q1 q2 q3 q4 q)
def cT7 (wi:TI)(g:TG)(tb:TS):TS:=λD σ H=>wi σ H λJ H1=>∃W:Nat->Nat->St->Hp->Prop,(∃m,W 0 m σ H1)/\∀i m σ H,W i m σ H ->
 (J.stop i H/\D.nx σ H)\/(J.go i H/\∃N:St->Hp->Prop,(∀σ' H',N σ' H'->∃m',m'<m/\W (i+1) m' σ' H')/\∀x H',J.yld i H x H'->g x σ H' λσ2 H2=>tb {D with nx:=N,ct:=N,bk:=D.nx} σ2 H2)
def m3 (fp:List Addr)(h:Heap):List (Addr×Obj):=fp.filterMap λb=>(h.get? b).map λo=>(b,o)
theorem d7 {fp:List Addr}{h:Heap}{b:Addr}{o:Obj}(hb:b∈fp)(e:h.get? b=some o):(b,o)∈m3 fp h:=List.mem_filterMap.mpr ⟨b,hb,by rw[e];rfl⟩
theorem aR3 {fp:List Addr}{h:Heap}{p:Addr×Obj}(hp:p∈m3 fp h):p.1∈fp/\h.get? p.1=some p.2:=by
 obtain ⟨b,hb,e⟩:=List.mem_filterMap.mp hp;cases q:h.get? b with
 | none=>rw[q]at e;cases e
 | some o=>
  rw[q]at e;have e':(b,o)=p:=Ab4 e;subst e';exact⟨hb,q⟩
theorem Inv.pinned {pins:List (Addr×Obj)}{σ:St}{H:Hp}{s:Shared}{fp:List Addr}(I:Inv X pins σ H s)(hf:∀b∈fp,aM4 X pins H b)(ho:∀b∈fp,∃o,s.heap.get? b=some o/\∀v,o.data≠.cell v):Inv X (pins++m3 fp s.heap) σ H s:=
 I.pins_of λp hp=>(Aa0.mp hp).elim (λz=>I.pin p (Ac1 _ z)) λz=>by
  obtain ⟨hb,e⟩:=aR3 z;obtain ⟨f0,f1,f2,_⟩:=hf p.1 hb;obtain ⟨o,e',d⟩:=ho p.1 hb;rw[e]at e';cases e';exact⟨e,f0,f1,f2,d⟩
theorem Inv.unpinned {pins pl:List (Addr×Obj)}{σ:St}{H:Hp}{s:Shared}(I:Inv X (pins++pl) σ H s):Inv X pins σ H s:=I.pins_of λp hp=>I.pin p (Ac1 _ (List.mem_append_left _ hp))
theorem L7 {iter:Expr}{body:List Stmt}{wi:TI}{g:TG}{tb:TS}{pos:Pos}(hp:PassesOwn (model X.prog X.w) X.A X.env X.xe)(hc:X.calm=true)(hi:PI X tg iter wi)(hg:PG X tg g)(hb:PSs X body tb)
  (hs:∀x,foldedSetIterable iter X.env x=pure x:=by intro _;rfl):PS X (.For tg iter body [] pos) (cT7 wi g tb):=by
 refine⟨?_⟩;intro pins s σ H D I h;refine wpAny_For (thn (hi pins s σ H _ I h) λv s1 h1=>thn h1 λitv s2 h2=>?_) hs
 obtain ⟨it,fp,tn,J,H2,e,I2,T,st2,f2,W,⟨m0,w0⟩,turn⟩:=h2;subst e;have stat:∀{H':Hp},(∀b∈fp,H' b=none)->∀b∈fp,aM4 X pins H' b:=λhn b hb=>⟨hn b hb,(f2 b hb).2⟩
 refine codeAny_forLoop_any (λn s'=>∃i σ' H',Inv X pins σ' H' s'/\tn i s'.heap/\(∀b∈fp,H' b=none)/\W i n σ' H') ?_ m0 ⟨0,σ,H2,I2,st2,λb hb=>(f2 b hb).1,w0⟩
 rintro n s3 ⟨i,σ3,H3,I3,st3,fr3,w3⟩;rcases turn i n σ3 H3 w3 with ⟨stop,qn⟩ | ⟨go,N,hN,step⟩
 ·refine wpAny_passesOwn hp (thn (T.done X rfl rfl rfl hc i pins s3 σ3 H3 X.xe I3 (stat fr3) st3 stop) λr s4 ⟨hr,I4⟩=>?_)
  subst hr;exact wpAny_execs_nil ⟨σ3,H3,I4,qn⟩
 ·refine wpAny_passesOwn hp (thn (T.item X rfl rfl rfl hc i pins s3 σ3 H3 X.xe I3 (stat fr3) st3 go) λr s4 ⟨u,hr,h4⟩=>?_)
  subst hr;refine wpAny_passesOwn hp (thn h4 λ_ s5 ⟨x,H5,I5,r5,y5,st5,fr5⟩=>?_)
  have I5':=I5.pinned (stat fr5) (T.obj _ _ st5)
  refine wpAny_passesOwn hp (thn (hg _ s5 σ3 H5 x u _ I5' r5 (step x H5 y5)) λ_ s6 ⟨σ6,H6,I6,q6⟩=>?_)
  refine wpAny_passesOwn hp (thn (hb _ s6 σ6 H6 _ I6 q6) λf s7 q7=>?_)
  have again:∀{σ7:St} {H7:Hp},Inv X (pins++m3 fp s5.heap) σ7 H7 s7->N σ7 H7->∃m,m<n/\∃i σ' H',Inv X pins σ' H' s7/\tn i s7.heap/\(∀b∈fp,H' b=none)/\W i m σ' H':=λ{σ7 H7} I7 n7=>by
   obtain ⟨m',hm,w7⟩:=hN σ7 H7 n7;refine⟨m',hm,i+1,σ7,H7,I7.unpinned,T.keep _ _ _ st5 λb hb o e=>(I7.pin (b,o) (Ac1 _ (Ac1 _ (d7 hb e)))).1,λb hb=>?_,w7⟩
   obtain ⟨o,e,d⟩:=T.obj _ _ st5 b hb;exact(I7.pin (b,o) (Ac1 _ (Ac1 _ (d7 hb e)))).2.1
  cases f with
  | next=>obtain ⟨σ7,H7,I7,n7⟩:=q7;exact again I7 n7
  | cont=>obtain ⟨σ7,H7,I7,n7⟩:=q7;exact again I7 n7
  | brk=>obtain ⟨σ7,H7,I7,q7⟩:=q7;exact⟨σ7,H7,I7.unpinned,q7⟩
  | ret v=>obtain ⟨x7,σ7,H7,I7,r7,q7⟩:=q7;exact⟨x7,σ7,H7,I7.unpinned,r7,q7⟩
end
abbrev R2:=V->V->Hp->VK->Prop
def OpR (X:Cx)(f:Value->Value->Sem Value)(r:R2):Prop:=
 ∀(pins:List (Addr×Obj)) (s:Shared) (σ:St) (H:Hp) (x y:V) (v u:Value) (Q:VK),Inv X pins σ H s->RelV x v->RelV y u->r x y H Q ->
  wpAny (model X.prog X.w) X.A (f v u) (EP X pins σ Q) X.xe s
def UnR (X:Cx)(f:Value->Sem Value)(r:V->Hp->VK->Prop):Prop:=
 ∀(pins:List (Addr×Obj)) (s:Shared) (σ:St) (H:Hp) (x:V) (v:Value) (Q:VK),Inv X pins σ H s->RelV x v->r x H Q ->
  wpAny (model X.prog X.w) X.A (f v) (EP X pins σ Q) X.xe s
def X0 (X:Cx)(f:Value)(r:List V->Hp->VK->Prop):Prop:=
 ∀(pins:List (Addr×Obj)) (s:Shared) (σ:St) (H:Hp) (xs:List V) (us:List Value) (Q:VK),Inv X pins σ H s->Vals xs us->r xs H Q ->
  wpAny (model X.prog X.w) X.A (call f us) (EP X pins σ Q) X.xe s
def tOp (r:R2)(ta tb:TE):TE:=λσ H Q=>ta σ H λx H1=>tb σ H1 λy H2=>r x y H2 Q
def tUn (r:V->Hp->VK->Prop)(ta:TE):TE:=λσ H Q=>ta σ H λx H1=>r x H1 Q
def rI (C:Int->Int->Prop)(g:Int->Int->V):R2:=λx y H Q=>∃i j,x=.int i/\y=.int j/\C i j/\Q (g i j) H
def rI0 (g:Int->Int->V):R2:=λx y H Q=>∃i j,x=.int i/\y=.int j/\Q (g i j) H
def rU (g:Int->V):V->Hp->VK->Prop:=λx H Q=>∃i,x=.int i/\Q (g i) H
section
variable {X:Cx}{a b c:Expr}{ta tb tc:TE}{pos:Pos}
theorem cN9 (ha:PE X a ta)(hb:PE X b tb){pins:List (Addr×Obj)}{s:Shared}{σ:St}{H:Hp}{R:V->V->Hp->Prop}(I:Inv X pins σ H s)
  (h:ta σ H λx H1=>tb σ H1 λy H2=>R x y H2) {Q:Value->Shared->Prop} {f:Value->Value->Sem Value}
  (hf:∀v u s2 x y H2,Inv X pins σ H2 s2->RelV x v->RelV y u->R x y H2->wpAny (model X.prog X.w) X.A (f v u) Q X.xe s2) :
  wpAny (model X.prog X.w) X.A (eval a X.env) (λv s₁=>wpAny (model X.prog X.w) X.A (eval b X.env) (λu s₂=>wpAny (model X.prog X.w) X.A (f v u) Q X.xe s₂) X.xe s₁) X.xe s:=by
 refine thn (ha pins s σ H _ I h) λv s1 ⟨x,H1,I1,r1,q1⟩=>?_
 refine thn (hb pins s1 σ H1 _ I1 q1) λu s2 ⟨y,H2,I2,r2,q2⟩=>?_
 exact hf v u s2 x y H2 I2 r1 r2 q2
theorem B2 {op:Operator}{r:R2}(ho:OpR X (binaryOp op) r)(ha:PE X a ta)(hb:PE X b tb):PE X (.BinOp a op b pos) (tOp r ta tb):=by
 refine⟨?_⟩;intro pins s σ H Q I h;exact wpAny_BinOp (cN9 ha hb I h λv u s2 x y H2 I2 rx ry q=>ho pins s2 σ H2 x y v u Q I2 rx ry q)
theorem aL1 {op:UnaryOp}{r:V->Hp->VK->Prop}(ho:UnR X (unaryOp op) r)(ha:PE X a ta):PE X (.UnaryOp op a pos) (tUn r ta):=by
 refine⟨?_⟩;intro pins s σ H Q I h;exact UnaryOp_ (thn (ha pins s σ H _ I h) λv s1 ⟨x,H1,I1,r1,q1⟩=>ho pins s1 σ H1 x v Q I1 r1 q1)
theorem opI {f:Value->Value->Sem Value}{C:Int->Int->Prop}{g:Int->Int->Int}
  (rule:∀(i j:Int) (t u:Tok) (s:Shared) (Q:Value->Shared->Prop) (E:Value->Shared->Prop),C i j->Q (.int (g i j) s.toks) {s with toks:=s.toks+1}->wpAny (model X.prog X.w) X.A (f (.int i t) (.int j u)) Q E s) :
  OpR X f (rI C λi j=>.int (g i j)):=by
 intro pins s σ H x y v u Q I rx ry h;obtain ⟨i,j,rfl,rfl,hc,q⟩:=h;obtain ⟨t,rfl⟩:=rx;obtain ⟨t',rfl⟩:=ry;exact rule i j t t' s _ _ hc ⟨.int (g i j),H,I.tok _,⟨_,rfl⟩,q⟩
theorem cV9 {f:Value->Value->Sem Value}{g:Int->Int->Int}
  (rule:∀(i j:Int) (t u:Tok) (s:Shared) (Q:Value->Shared->Prop) (E:Value->Shared->Prop),Q (.int (g i j) s.toks) {s with toks:=s.toks+1}->wpAny (model X.prog X.w) X.A (f (.int i t) (.int j u)) Q E s) :
  OpR X f (rI0 λi j=>.int (g i j)):=by
 intro pins s σ H x y v u Q I rx ry h;obtain ⟨i,j,rfl,rfl,q⟩:=h;obtain ⟨t,rfl⟩:=rx;obtain ⟨t',rfl⟩:=ry;exact rule i j t t' s _ _ ⟨.int (g i j),H,I.tok _,⟨_,rfl⟩,q⟩
theorem cA2 {f:Value->Value->Sem Value}{g:Int->Int->Bool}
  (rule:∀(i j:Int) (t u:Tok) (s:Shared) (Q:Value->Shared->Prop) (E:Value->Shared->Prop),Q (.bool (g i j)) s->wpAny (model X.prog X.w) X.A (f (.int i t) (.int j u)) Q E s) :
  OpR X f (rI0 λi j=>.bl (g i j)):=by
 intro pins s σ H x y v u Q I rx ry h;obtain ⟨i,j,rfl,rfl,q⟩:=h;obtain ⟨t,rfl⟩:=rx;obtain ⟨t',rfl⟩:=ry;exact rule i j t t' s _ _ ⟨.bl (g i j),H,I,rfl,q⟩
def cW1 (i j:Int):Prop:=0<j/\j<1073741824
theorem D1:OpR X (binaryOp .Add) (rI0 λi j=>.int (i+j)):=cV9 λ_ _ _ _ _ _ _ q=>add_int q
theorem U3:OpR X (binaryOp .Sub) (rI0 λi j=>.int (i-j)):=cV9 λ_ _ _ _ _ _ _ q=>sub_int q
theorem u6:OpR X (binaryOp .FloorDiv) (rI cW1 λi j=>.int (i / j)):=opI λi j _ _ _ _ _ hc q=>by
 have h1:(0:Int)<j:=hc.1
 have h2:j<1073741824:=hc.2
 exact floordiv_int (by omega) (by rw[Int.fdiv_eq_ediv_of_nonneg i (by omega)];exact q) (.inl (PyProof.noPylong_small (by omega)))
theorem U1:OpR X (binaryOp .Mod) (rI (λ_ j=>0<j) λi j=>.int (i % j)):=opI λi j _ _ _ _ _ hc q=>by
 have h1:(0:Int)<j:=hc
 exact mod_int' (by omega) (by rw[Int.fmod_eq_emod_of_nonneg i (by omega)];exact q)
theorem unI {f:Value->Sem Value}{g:Int->Int}
  (rule:∀(i:Int) (t:Tok) (s:Shared) (Q:Value->Shared->Prop) (E:Value->Shared->Prop),Q (.int (g i) s.toks) {s with toks:=s.toks+1}->wpAny (model X.prog X.w) X.A (f (.int i t)) Q E s) :
  UnR X f (rU λi=>.int (g i)):=by
 intro pins s σ H x v Q I rx h;obtain ⟨i,rfl,q⟩:=h;obtain ⟨t,rfl⟩:=rx;exact rule i t s _ _ ⟨.int (g i),H,I.tok _,⟨_,rfl⟩,q⟩
theorem aA5:UnR X (unaryOp .USub) (rU λi=>.int (-i)):=unI λ_ _ _ _ _ q=>neg_int q
end
def cV6:V->V->Bool
 | .non,.non=>true | .non,.int _=>true | .int _,.non=>true | .non,.bl _=>true | .bl _,.non=>true | .non,.str _=>true | .str _,.non=>true
 | .int _,.int _=>true | .bl _,.bl _=>true | .str _,.str _=>true | .byt _,.byt _=>true
 | .int _,.str _=>true | .str _,.int _=>true | .bl _,.str _=>true | .str _,.bl _=>true
 | _,_=>false
def rEq:R2:=λx y H Q=>cV6 x y=true/\Q (.bl (decide (x=y))) H
def rNe:R2:=λx y H Q=>cV6 x y=true/\Q (.bl (!decide (x=y))) H
theorem bK2 {i j:Int}:decide (V.int i=V.int j)=(i==j):=by
 rw[Bool.eq_iff_iff]
 simp
theorem bT8 {i j:Bool}:decide (V.bl i=V.bl j)=(i==j):=by
 rw[Bool.eq_iff_iff]
 simp
theorem bM3 {i j:Str}:decide (V.str i=V.str j)=(i==j):=by
 rw[Bool.eq_iff_iff]
 simp
theorem bM7 {i j:Array UInt8}:decide (V.byt i=V.byt j)=(i.toList==j.toList):=by
 rw[Bool.eq_iff_iff];cases i;cases j
 simp
section
variable {X:Cx}{a b c:Expr}{ta tb tc:TE}{pos:Pos}
theorem E4 {pins:List (Addr×Obj)}{σ:St}{H:Hp}{s:Shared}{Q:VK}{k k':Bool}(I:Inv X pins σ H s)(q:Q (.bl k) H)(e:k=k'):EP X pins σ Q (.bool k') s:=by
 subst e;exact⟨.bl k,H,I,rfl,q⟩
theorem aS2:OpR X (compareOp .Eq) rEq:=by
 intro pins s σ H x y v u Q I rx ry h;obtain ⟨hs,q⟩:=h;cases x with
 | non=>
  cases rx
  cases y with
  | non=>cases ry;exact PySem.EqNone.eq_none_none (E4 I q (by simp))
  | bl j=>cases ry;exact PySem.EqNone.eq_none_bool (E4 I q (by simp))
  | int j=>obtain ⟨t',rfl⟩:=ry;exact PySem.EqNone.eq_none_int (E4 I q (by simp))
  | str j=>obtain ⟨t',rfl⟩:=ry;exact PySem.EqNone.eq_none_str (E4 I q (by simp))
  | _=>exact absurd (show false=true from hs) Bool.false_ne_true
 | bl i=>
  cases rx
  cases y with
  | non=>cases ry;exact PySem.EqNone.eq_bool_none (E4 I q (by simp))
  | bl j=>cases ry;exact eq_bool (E4 I q bT8)
  | str j=>obtain ⟨t',rfl⟩:=ry;exact PySem.EqMixed.eq_bool_str (E4 I q (by simp))
  | _=>exact absurd (show false=true from hs) Bool.false_ne_true
 | int i=>
  obtain ⟨t,rfl⟩:=rx;cases y with
  | non=>cases ry;exact PySem.EqNone.eq_int_none (E4 I q (by simp))
  | int j=>obtain ⟨t',rfl⟩:=ry;exact eq_int (E4 I q bK2)
  | str j=>obtain ⟨t',rfl⟩:=ry;exact PySem.EqMixed.eq_int_str (E4 I q (by simp))
  | _=>exact absurd (show false=true from hs) Bool.false_ne_true
 | str i=>
  obtain ⟨t,rfl⟩:=rx;cases y with
  | non=>cases ry;exact PySem.EqNone.eq_str_none (E4 I q (by simp))
  | bl j=>cases ry;exact PySem.EqMixed.eq_str_bool (E4 I q (by simp))
  | int j=>obtain ⟨t',rfl⟩:=ry;exact PySem.EqMixed.eq_str_int (E4 I q (by simp))
  | str j=>obtain ⟨t',rfl⟩:=ry;exact eq_str (E4 I q bM3)
  | _=>exact absurd (show false=true from hs) Bool.false_ne_true
 | byt i=>
  obtain ⟨t,rfl⟩:=rx;cases y with
  | byt j=>obtain ⟨t',rfl⟩:=ry;exact PySem.W.eq_bytes (E4 I q bM7)
  | _=>exact absurd (show false=true from hs) Bool.false_ne_true
 | _=>cases y <;> exact absurd (show false=true from hs) Bool.false_ne_true
theorem bN4:OpR X (compareOp .NotEq) rNe:=by
 intro pins s σ H x y v u Q I rx ry h;obtain ⟨hs,q⟩:=h;cases x with
 | non=>
  cases rx
  cases y with
  | non=>cases ry;exact PySem.EqNone.ne_none_none (E4 I q (by simp))
  | bl j=>cases ry;exact PySem.EqNone.ne_none_bool (E4 I q (by simp))
  | int j=>obtain ⟨t',rfl⟩:=ry;exact PySem.EqNone.ne_none_int (E4 I q (by simp))
  | str j=>obtain ⟨t',rfl⟩:=ry;exact PySem.EqNone.ne_none_str (E4 I q (by simp))
  | _=>exact absurd (show false=true from hs) Bool.false_ne_true
 | bl i=>
  cases rx
  cases y with
  | non=>cases ry;exact PySem.EqNone.ne_bool_none (E4 I q (by simp))
  | bl j=>cases ry;exact ne_bool (E4 I q (congrArg not bT8))
  | str j=>obtain ⟨t',rfl⟩:=ry;exact PySem.EqMixed.ne_bool_str (E4 I q (by simp))
  | _=>exact absurd (show false=true from hs) Bool.false_ne_true
 | int i=>
  obtain ⟨t,rfl⟩:=rx;cases y with
  | non=>cases ry;exact PySem.EqNone.ne_int_none (E4 I q (by simp))
  | int j=>obtain ⟨t',rfl⟩:=ry;exact ne_int (E4 I q (congrArg not bK2))
  | str j=>obtain ⟨t',rfl⟩:=ry;exact PySem.EqMixed.ne_int_str (E4 I q (by simp))
  | _=>exact absurd (show false=true from hs) Bool.false_ne_true
 | str i=>
  obtain ⟨t,rfl⟩:=rx;cases y with
  | non=>cases ry;exact PySem.EqNone.ne_str_none (E4 I q (by simp))
  | bl j=>cases ry;exact PySem.EqMixed.ne_str_bool (E4 I q (by simp))
  | int j=>obtain ⟨t',rfl⟩:=ry;exact PySem.EqMixed.ne_str_int (E4 I q (by simp))
  | str j=>obtain ⟨t',rfl⟩:=ry;exact ne_str (E4 I q (congrArg not bM3))
  | _=>exact absurd (show false=true from hs) Bool.false_ne_true
 | byt i=>
  obtain ⟨t,rfl⟩:=rx;cases y with
  | byt j=>obtain ⟨t',rfl⟩:=ry;exact PySem.W.ne_bytes (E4 I q (congrArg not bM7))
  | _=>exact absurd (show false=true from hs) Bool.false_ne_true
 | _=>cases y <;> exact absurd (show false=true from hs) Bool.false_ne_true
theorem aQ8:OpR X (compareOp .Lt) (rI0 λi j=>.bl (decide (i<j))):=cA2 λ_ _ _ _ _ _ _ q=>lt_int q
theorem cU2:OpR X (compareOp .LtE) (rI0 λi j=>.bl (decide (i<=j))):=cA2 λ_ _ _ _ _ _ _ q=>le_int q
theorem aG6:OpR X (compareOp .Gt) (rI0 λi j=>.bl (decide (j<i))):=cA2 λ_ _ _ _ _ _ _ q=>gt_int q
theorem cQ5:OpR X (compareOp .GtE) (rI0 λi j=>.bl (decide (j<=i))):=cA2 λ_ _ _ _ _ _ _ q=>ge_int q
theorem E2 (b:Expr){op:CmpOp}(h:op≠.In:=by decide)(h2:op≠.NotIn:=by decide):behindInMarks op b=false:=by
 have e1:(op==CmpOp.In)=false:=by cases op <;> first | rfl | exact absurd rfl h
 have e2:(op==CmpOp.NotIn)=false:=by cases op <;> first | rfl | exact absurd rfl h2
 cases b <;> simp[behindInMarks,e1,e2]
theorem cA5 {op:CmpOp}{r:R2}(ho:OpR X (compareOp op) r)(ha:PE X a ta)(hb:PE X b tb)(hm:behindInMarks op b=false):PE X (.Compare a [op] [b] pos) (tOp r ta tb):=by
 refine⟨?_⟩;intro pins s σ H Q I h;exact wpAny_Compare1 (cN9 ha hb I h λv u s2 x y H2 I2 rx ry q=>ho pins s2 σ H2 x y v u Q I2 rx ry q) hm
def w4 (t:TE):TT:=λσ H Q=>t σ H λx H'=>∃k,x=.bl k/\Q k H'
theorem C1 {op:CmpOp}{r:R2}(ho:OpR X (compareOp op) r)(ha:PE X a ta)(hb:PE X b tb)(hm:behindInMarks op b=false):PT X (.Compare a [op] [b] pos) (w4 (tOp r ta tb)):=by
 refine⟨?_⟩;intro pins s σ H Q I h;refine wpAny_isTrue_Compare1 (thn (ha pins s σ H _ I h) λv s1 ⟨x,H1,I1,r1,q1⟩=>thn (hb pins s1 σ H1 _ I1 q1) λu s2 ⟨y,H2,I2,r2,q2⟩=>
  thn (ho pins s2 σ H2 x y v u _ I2 r1 r2 q2) λc s3 ⟨z,H3,I3,r3,k,e,q3⟩=>?_) hm
 subst e;cases r3;exact wpAny_truthy_bool ⟨H3,I3,q3⟩
def bG0 (r r':R2)(ta tb tc:TE):TE:=λσ H Q=>ta σ H λx H1=>tb σ H1 λy H2=>r x y H2 λz H3=>∃k,z=.bl k /\
 (if k=true then tc σ H3 λw' H4=>r' y w' H4 Q else Q (.bl false) H3)
theorem bZ5 {op op':CmpOp}{r r':R2}(ho:OpR X (compareOp op) r)(ho':OpR X (compareOp op') r')(ha:PE X a ta)(hb:PE X b tb)(hc:PE X c tc)
  (hm:lastMarks [op,op'] [b,c]=false:=by with_unfolding_all rfl):PT X (.Compare a [op,op'] [b,c] pos) (w4 (bG0 r r' ta tb tc)):=by
 refine⟨?_⟩;intro pins s σ H Q I h;refine isTrue_chain (thn (ha pins s σ H _ I h) λv s1 ⟨x,H1,I1,r1,q1⟩=>test_link (thn (hb pins s1 σ H1 _ I1 q1) λu s2 ⟨y,H2,I2,r2,q2⟩=>
  thn (ho pins s2 σ H2 x y v u _ I2 r1 r2 q2) λd s3 ⟨z,H3,I3,r3,k,e,q3⟩=>?_)) hm
 subst e;cases r3;refine wpAny_truthy_bool ?_;cases k with
 | false=>
  obtain ⟨k',e',q'⟩:=q3;cases e';exact ite_ff ⟨H3,I3,q'⟩
 | true=>
  refine ite_tt (test_last (thn (hc pins s3 σ H3 _ I3 q3) λw' s4 ⟨z',H4,I4,r4,q4⟩=>thn (ho' pins s4 σ H4 y z' u w' _ I4 r2 r4 q4) λd' s5 ⟨z2,H5,I5,r5,k2,e2,q5⟩=>?_))
  subst e2;cases r5;exact wpAny_truthy_bool ⟨H5,I5,q5⟩
theorem aF9:(sizeLine:Nat)<2^63:=by rw[sizeLine_eq];decide
theorem v7 {x:V}{us:List Value}(r:Vals [x] us):∃u,us=[u]/\RelV x u:=by
 cases r with
 | cons r1 r2=>cases r2;exact⟨_,rfl,r1⟩
end
structure Cls (K:PySem.W.Frag)(C:Addr):Prop where
 pg:PySem.W.plainGet K C Str.empty=true
 hd:PySem.W.hasDictIn K C=true
 po:PySem.W.plainOver K C=true
 sa:PySem.W.findIn K (.ref C) "__setattr__" = some (some (.builtin "object.__setattr__"))
section
variable {X:Cx}{pins:List (Addr×Obj)}{σ:St}{H:Hp}{s:Shared}{A:Around}{E:Value->Shared->Prop}{Q:Value->Shared->Prop}{c:Value}{b:Bool}
inductive aN3 (K:PySem.W.Frag)(H:Hp):V->Value->Prop where
 | non:aN3 K H .non (.type "NoneType")
 | bl (x:Bool):aN3 K H (.bl x) (.type "bool")
 | int (i:Int):aN3 K H (.int i) (.type "int")
 | str (x:Str):aN3 K H (.str x) (.type "str")
 | flt (x:UInt64):aN3 K H (.flt x) (.type "float")
 | lst {a:Addr} {xs:List V} (e:H a=some (.lst xs)):aN3 K H (.ref a) (.type "list")
 | frz {a:Addr} {o:Obj} {xs:List V} (e:H a=some (.frz o (.lst xs))):aN3 K H (.ref a) (.type "list")
 | tup {a:Addr} {xs:List V} (e:H a=some (.tup xs)):aN3 K H (.ref a) (.type "tuple")
 | dK {a:Addr} {kvs:List (Key×V)} (e:H a=some (.dK kvs)):aN3 K H (.ref a) (.type "dict")
 | dT {a:Addr} {kvs:List (List Key×V)} (e:H a=some (.dT kvs)):aN3 K H (.ref a) (.type "dict")
 | ins {a C dx:Addr} {fs:List (Str×V)} (e:H a=some (.ins C dx fs)) (cl:Cls K C) (ha:PySem.W.findIn K (.ref C) "__class__" = some (some (.builtin "object.__class__")))
   (hn:PySem.W.specialIn K (.builtin "object.__class__") "__get__" = some (some (.builtin "getset_descriptor.__get__"))) (htk:PySem.W.takesIn K (.builtin "object.__class__")=some true)
   (hm:PySem.W.mroIn K C (.type "object")=some true):aN3 K H (.ref a) (.ref C)
end
structure Room (k:Nat)(A:Around):Prop where
 hd:A.handled=none
 dp:A.depth+3*k+5<recursionLimit
 un:A.units+16*k+200<cLine
theorem Room.mono {j k:Nat}{A:Around}(r:Room k A)(h:j<=k):Room j A:=⟨r.hd,by have:=r.dp;omega,by have:=r.un;omega⟩
theorem Room.deeper {k:Nat}{A:Around}(r:Room (k+1) A)(env:Env):Room k (A.deeper env):=
 ⟨r.hd,by have:=r.dp;show A.depth+1+3*k+5<_;omega,by have:=r.un;show A.units+3+16*k+200<_;omega⟩
theorem Room.in1 {k:Nat}{A:Around}(r:Room (k+1) A):Room k A.in1:=
 ⟨r.hd,by have:=r.dp;show A.depth+3*k+5<_;omega,by have:=r.un;show A.units+1+16*k+200<_;omega⟩
theorem Room.depth {k:Nat}{A:Around}(r:Room k A):A.depth<recursionLimit:=by have:=r.dp;omega
def S6:TA:=λ_ H Q=>Q [] H
def E1 (ta:TE)(tr:TA):TA:=λσ H Q=>ta σ H λx H1=>tr σ H1 λxs H2=>Q (x::xs) H2
section
variable {X:Cx}{e:Expr}{es:List Expr}{te:TE}{t:TA}{pos:Pos}
theorem A3:PA X [] S6:=⟨λ_ _ _ _ H Q I h=>Calls.spliced_nil ⟨[],H,I,.nil,h⟩⟩
theorem cF2 (ha:PE X e te)(hr:PA X es t)(hs:starEach (e::es) X.env=(false,eval e X.env)::starEach es X.env:=by rfl):PA X (e::es) (E1 te t):=by
 refine⟨?_⟩;intro pos pins s σ H Q I h;rw[hs];show wpAny _ _ (spliced ((false,eval e X.env)::backTo pos (starEach es X.env))) _ _ s;refine Calls.spliced_cons (thn (ha pins s σ H _ I h) λu s1 ⟨x,H1,I1,r1,q1⟩=>?_)
 exact thn (hr pos pins s1 σ H1 _ I1 q1) λus s2 ⟨xs,H2,I2,r2,q2⟩=>⟨x::xs,H2,I2,.cons r1 r2,q2⟩
def aH5 (t:TA):TE:=λσ H Q=>t σ H λxs H1=>xs.length<=sizeLine/\∀p,H1 p=none->Q (.ref p) (upd H1 p (.tup xs))
def cL9 (t:TA):TE:=λσ H Q=>t σ H λxs H1=>xs.length<=sizeLine/\∀p,H1 p=none->Q (.ref p) (upd H1 p (.lst xs))
theorem G0 {x1}(h:PA X es t):PE X (.Tuple es x1 pos) (aH5 t):=by
 refine⟨?_⟩;intro pins s σ H Q I hq;refine wpAny_Tuple_spliced (thn (h pos pins s σ H _ I hq) λus s1 ⟨xs,H1,I1,r,z,q⟩=>⟨by rw[<- r.length];exact z,?_⟩)
 have hf:H1 s1.heap.objs.size=none:=I1.hok.fresh (Aa7 _)
 refine⟨.ref s1.heap.objs.size,upd H1 s1.heap.objs.size (.tup xs),I1.laid (t':=s1.toks) (λb u e=>Aa6 _ e) (Aa7 _) ?_,rfl,q _ hf⟩
 exact⟨z,us,r,⟨_,Ac3 _ rfl,rfl,⟨_,rfl⟩,rfl⟩⟩
theorem C6 (h:PA X es t):PE X (.List es pos) (cL9 t):=by
 refine⟨?_⟩;intro pins s σ H Q I hq;refine wpAny_List_spliced (thn (h pos pins s σ H _ I hq) λus s1 ⟨xs,H1,I1,r,z,q⟩=>⟨by rw[<- r.length];exact z,?_⟩)
 have hf:H1 s1.heap.objs.size=none:=I1.hok.fresh (Aa7 _)
 refine⟨.ref s1.heap.objs.size,upd H1 s1.heap.objs.size (.lst xs),I1.laid (t':=s1.toks) (λb u e=>Aa6 _ e) (Aa7 _) ?_,rfl,q _ hf⟩
 exact⟨z,us,0,r,Ac3 _ rfl⟩
end
abbrev Sp:=List V->Hp->VK->XK->Prop
abbrev CXT:=List Env->Hp->Shared->XK->Value->Shared->Prop
structure cB8 (P:Program)(w:World)(K:PySem.W.Frag)(mg:Str->Option Value)(base:Heap)(A:Around)(outer:List Env)(s:Shared)(H:Hp):Prop where
 frames:A.frames=some outer
 mod:Mod K mg base
 bs:∀b o,base.get? b=some o->s.heap.get? b=some o/\H b=none
 bsz:base.objs.size<=s.heap.objs.size
 funs:s.heap.FunFrames base outer
 frf:∀b∈frs outer,H b=none
 hok:HOk P w H s.heap
 bare:AllBare s.gens
 tab:Tb K H
def CE (outer:List Env)(P:Program)(w:World)(H:Hp)(s:Shared)(Q:VK)(u:Value)(s':Shared):Prop:=
 ∃v H',s'.os=s.os/\AllBare s'.gens/\Un (frs outer) [] H H' s.heap s'.heap/\HOk P w H' s'.heap/\RelV v u/\Q v H'
def CR (CX:CXT)(outer:List Env)(P:Program)(w:World)(H:Hp)(s:Shared)(Q:VK)(E:XK)(r:Result)(s':Shared):Prop:=
 match r with
 | .ok (.ret u)=>CE outer P w H s Q u s'
 | .ok _=>False
 | .error e=>CX outer H s E e s'
structure G3 (P:Program)(w:World)(K:PySem.W.Frag)(mg:Str->Option Value)(base:Heap)(CX:CXT)(k:Nat)(f:Addr)(fd:FuncData)(ps:List Str)(sp:Sp):Prop where
 len:∀vs H Q E,sp vs H Q E->vs.length=ps.length
 run:∀(A:Around) (outer:List Env) (s:Shared) (H:Hp) (args:Args) (us:List Value) (vs:List V) (Q:VK) (E:XK),Room k A->cB8 P w K mg base A outer s H->BindsTo s fd args (ps.zip us)->Vals vs us->sp vs H Q E ->
  codeAny (model P w) A (.call (.ref f) args) (CR CX outer P w H s Q E) s
section
variable {X:Cx}{pins:List (Addr×Obj)}{σ:St}{H:Hp}{s s':Shared}
theorem Inv.tab (I:Inv X pins σ H s):Tb X.K H:=I.ok.tab.grow I.base
theorem Inv.env0 (I:Inv X pins σ H s):cB8 X.prog X.w X.K X.mg X.base X.A X.stack s H:=
 ⟨I.ok.frames,I.ok.mod,I.bs,Nat.le_trans I.ok.bsz I.sz,I.stack,I.stkFree,I.hok,I.bare,I.tab⟩
theorem Inv.after {Q:VK}{u:Value}(I:Inv X pins σ H s)(h:CE X.stack X.prog X.w H s Q u s'):EP X pins σ Q u s':=by
 obtain ⟨v,H',os,bare,un,hok,r,q⟩:=h;obtain ⟨hh,g,d,t,os'⟩:=s';obtain rfl:os'=s.os:=os;exact⟨v,H',I.call (h':=hh) (g':=g) (d':=d) (t':=t) (ch:=[]) un hok bare (λb z=>absurd z (by simp)),r,q⟩
end
def aP3 (sp:Sp)(dvs:List V)(E:XK)(t:TA):TE:=λσ H Q=>t σ H λvs H1=>sp (vs++dvs) H1 Q E
def Binds (K:PySem.W.Frag)(fd:FuncData)(ps:List Str)(ds:List Value):Prop:=
 ∀(s:Shared) (us:List Value),K.In s.heap->(us++ds).length=ps.length->BindsTo s fd ⟨us,[]⟩ (ps.zip (us++ds))
theorem Binds.all {K:PySem.W.Frag}{fd:FuncData}{ps:List Str}(h:∀us:List Value,us.length=ps.length->bindArgs fd ⟨us,[]⟩=pure (ps.zip us)):Binds K fd ps []:=λs us _ hl=>by
 rw[List.append_nil]at hl ⊢;exact .of_eq (h us hl)
def bH4 (CX:CXT)(X:Cx)(E:XK):Prop:=∀(pins:List (Addr×Obj)) (σ:St) (H:Hp) (s:Shared) (e:Value) (s':Shared),Inv X pins σ H s->CX X.stack H s E e s'->X.xe e s'
section
variable {X:Cx}{CX:CXT}{k:Nat}{f C:Addr}{fd:FuncData}{ps:List Str}{sp:Sp}{dvs:List V}{ds:List Value}{E:XK}{x m:Str}{p pos apos:Pos}{e o:Expr}{es:List Expr}{ta:TE}{t:TA}
theorem cP0 {pins:List (Addr×Obj)}{σ:St}{H:Hp}{s:Shared}{Q:VK}{us:List Value}{vs:List V}(F:G3 X.prog X.w X.K X.mg X.base CX k f fd ps sp)(hr:Room k X.A)(hb:Binds X.K fd ps ds)(hd:Vals dvs ds)(hx:bH4 CX X E)
  (I:Inv X pins σ H s) (r:Vals vs us) (h:sp (vs++dvs) H Q E):wpAny (model X.prog X.w) X.A (call (.ref f) us) (EP X pins σ Q) X.xe s:=by
 have r2:Vals (vs++dvs) (us++ds):=r.append hd
 have hl:(us++ds).length=ps.length:=by rw[<- r2.length];exact F.len _ _ _ _ h
 refine wpAny_call (codeAny_mono (F.run X.A X.stack s H ⟨us,[]⟩ (us++ds) (vs++dvs) Q E hr I.env0 (hb s us I.kIn hl) r2 h) λr s' hq=>?_)
 cases r with
 | error e=>exact hx pins σ H s e s' I hq
 | ok fl=>
  cases fl with
  | ret u=>exact I.after hq
  | next=>exact False.elim hq
  | brk=>exact False.elim hq
  | cont=>exact False.elim hq
theorem C4 (F:G3 X.prog X.w X.K X.mg X.base CX k f fd ps sp)(hr:Room k X.A)(hg:Gl X x)(hm:X.mg x=some (.ref f))(hk:PySem.W.keepIn X.K (.ref f)=true)(hb:Binds X.K fd ps ds)(hd:Vals dvs ds)(hx:bH4 CX X E)
  (ha:PA X (e::es) t) (hdb:(x==("__debug__" : Str))=false:=by decide) (he:starEach (e::es) X.env=(false,eval e X.env)::starEach es X.env:=by rfl) (hpl:(backTo pos (starEach es X.env)).any (·.1)=false:=by rfl) :
  PE X (.Call (.Name x p) (e::es) [] pos) (aP3 sp dvs E t):=by
 refine⟨?_⟩;intro pins s σ H Q I h;refine wpAny_Call_Name_kw (bJ4 I hg hm ?_ hdb);refine PySem.W.callWith_K (h₀:=X.base) I.ok.mod.kin hk (thn (ha pos pins s σ H _ I h) λus s1 ⟨vs,H1,I1,r,q⟩=>⟨I1.kIn,?_⟩) he hpl
 exact cP0 F hr hb hd hx I1 r q
end
structure D7 (N P:List Str)(sc:Scope):Prop where
 kind:sc.kind=.function
 co:sc.isCoroutine=false
 gen:sc.isGenerator=false
 nd:N.Nodup
 pre:N.take P.length=P
 par:∀x∈P,sc.names.lookup x=some .local\/sc.names.lookup x=some .cell
 nofree:∀y∈sc.names,y.2≠.free
theorem aR8 {kindOf:Str->Option NameKind}{x:Str}:∀{binds:List (Str×Value)} {m:Str->Option Value},(∀v,(x,v)∉binds)->bindL kindOf binds m x=m x
 | [],_,_=>rfl
 | (n,v)::r,m,h=>by
  unfold bindL;rw[aR8 λw hw=>h w (Ad4 _ hw)]
  split
  ·have:x≠n:=by rintro rfl;exact h v List.mem_cons_self
   simp[this]
  ·rfl
theorem aR4 {kindOf:Str->Option NameKind}{x:Str}:∀{binds:List (Str×Value)} {m:Str->Option Value},(∀v,(x,v)∉binds)->bindC kindOf binds m x=m x
 | [],_,_=>rfl
 | (n,v)::r,m,h=>by
  unfold bindC;rw[aR4 λw hw=>h w (Ad4 _ hw)]
  split
  ·rfl
  ·have:x≠n:=by rintro rfl;exact h v List.mem_cons_self
   simp[this]
theorem aR6 {kindOf:Str->Option NameKind}{x:Str}{v:Value}:∀{P:List Str} {vs:List Value} {i:Nat} {m:Str->Option Value},P.Nodup->P[i]? = some x->vs[i]? = some v->kindOf x=some .local ->
  bindL kindOf (P.zip vs) m x=some v
 | [],_,_,_,_,h,_,_=>by simp at h
 | _::_,[],_,_,_,_,h,_=>by simp at h
 | p::P,w::vs,0,m,nd,h1,h2,hk=>by
  simp at h1 h2;subst h1;subst h2
  show bindL kindOf ((p,w)::P.zip vs) m p=_
  unfold bindL;rw[aR8 λv hv=>(Aa5.mp nd).1 (List.of_mem_zip hv).1,if_pos hk]
  simp
 | p::P,w::vs,i+1,m,nd,h1,h2,hk=>by
  show bindL kindOf ((p,w)::P.zip vs) m x=_
  unfold bindL;exact aR6 (i:=i) (Aa5.mp nd).2 (by simpa using h1) (by simpa using h2) hk
theorem aQ9 {kindOf:Str->Option NameKind}{x:Str}{v:Value}:∀{P:List Str} {vs:List Value} {i:Nat} {m:Str->Option Value},P.Nodup->P[i]? = some x->vs[i]? = some v->kindOf x≠some .local ->
  bindC kindOf (P.zip vs) m x=some v
 | [],_,_,_,_,h,_,_=>by simp at h
 | _::_,[],_,_,_,_,h,_=>by simp at h
 | p::P,w::vs,0,m,nd,h1,h2,hk=>by
  simp at h1 h2;subst h1;subst h2
  show bindC kindOf ((p,w)::P.zip vs) m p=_
  unfold bindC;rw[aR4 λv hv=>(Aa5.mp nd).1 (List.of_mem_zip hv).1,if_neg hk]
  simp
 | p::P,w::vs,i+1,m,nd,h1,h2,hk=>by
  show bindC kindOf ((p,w)::P.zip vs) m x=_
  unfold bindC;exact aQ9 (i:=i) (Aa5.mp nd).2 (by simpa using h1) (by simpa using h2) hk
def W5 (N:List Str)(vs:List V):St:=vs.map some++List.replicate (N.length-vs.length) none
def bG6 (CX:CXT)(P:Program)(w:World)(K:PySem.W.Frag)(mg:Str->Option Value)(base:Heap)(N:List Str)(qual:Str)(scope:Scope)(f:Addr)(cd:Value)(A:Around)(outer:List Env)(s:Shared)(H:Hp)(E:XK):Cx where
 prog:=P
 w:=w
 K:=K
 mg:=mg
 base:=base
 A:=A.deeper (envOfC qual scope s.heap.objs.size f cd)
 N:=N
 s₀:=s
 H₀:=H
 env:=envOfC qual scope s.heap.objs.size f cd
 outer:=outer
 stack:=envOfC qual scope s.heap.objs.size f cd::outer
 ex:=[]
 calm:=true
 fn:=λ_=>true
 pn:=[]
 xe:=λe s'=>wpAny (model P w) (A.deeper (envOfC qual scope s.heap.objs.size f cd)) (leaving (envOfC qual scope s.heap.objs.size f cd) e) (λ_ s''=>CX outer H s E e s'') (λe' s''=>CX outer H s E e' s'') s'
theorem aZ2 {sc:Scope}{n:Nat}{x:Str}(h:sc.names.lookup x=some .cell):∃c,(cellsFrom n sc.names []).lookup x=some c:=by
 have q:=PySem.W.cellsFrom_some sc.names n [] (.inl h)
 exact Option.isSome_iff_exists.mp q
theorem bO3 {CX:CXT}{P:Program}{w:World}{K:PySem.W.Frag}{mg:Str->Option Value}{base:Heap}{N ps:List Str}{qual:Str}{scope:Scope}{f:Addr}{cd:Value}{A:Around}{outer:List Env}{s s1:Shared}{H:Hp}{E:XK}{us:List Value}{vs:List V}
  (S:D7 N ps scope) (hd:A.handled=none) (e0:cB8 P w K mg base A outer s H) (hl:vs.length=ps.length) (r:Vals vs us)
  (x:InCallC s s.heap.objs.size (bindL (envOfC qual scope s.heap.objs.size f cd).kindOf (ps.zip us) λ_=>none) (cellsFrom (s.heap.objs.size+1) scope.names []) (bindC (envOfC qual scope s.heap.objs.size f cd).kindOf (ps.zip us) λ_=>none) s1) :
  Inv (bG6 CX P w K mg base N qual scope f cd A outer s H E) [] (W5 N vs) H s1:=by
 have hpl:ps.length<=N.length:=by have:=congrArg List.length S.pre;rw[Ad1]at this;omega
 obtain ⟨h1,tk,rfl,hk⟩:=x.done;have noA:∀b:Addr,b∉(bG6 CX P w K mg base N qual scope f cd A outer s H E).ex:=λb z=>absurd (show b∈([]:List Addr) from z) (by simp)
 refine⟨⟨e0.mod,S.kind,rfl,rfl,Aa7 _,λy z c h1 h2=>?_,λy hy=>?_,λy c _ h=>?_,λ_=>hd,Around.frames_deeper e0.frames,.inr ⟨rfl,rfl⟩,λb z=>absurd z (noA b),e0.bs,e0.bsz,λb _ _=>noA b,λb z=>absurd z (noA b),e0.funs,e0.frf,e0.tab⟩,
  rfl,e0.bare,Un.kept hk,⟨_,x.toInCall.ns,λi y v h1 h2 h3=>?_⟩,λy c h=>⟨_,x.cell y c h⟩,e0.hok.fresh (Aa7 _),λy c h=>?_,λp hp=>absurd (show p∈([]:List (Addr×Obj)) from hp) (by simp),e0.hok.kept hk,?_⟩
 ·exact name_of_addr x.apart (PySem.mem_of_lookup h1) (PySem.mem_of_lookup h2)
 ·have hy:scope.names.lookup y=some .cell\/scope.names.lookup y=some .free:=hy
  rcases hy with hy | hy
  ·exact aZ2 hy
  ·exact absurd rfl (S.nofree _ (PySem.mem_of_lookup hy))
 ·exact Nat.le_of_lt (x.above y c (PySem.mem_of_lookup h))
 ·have hi:i<vs.length:=by
   unfold W5 at h2;by_cases hi:i<vs.length
   ·exact hi
   ·rw[List.getElem?_append_right (by simpa using hi)]at h2
    rw[List.getElem?_replicate]at h2;split at h2 <;> cases h2
  have ha:vs[i]? = some v:=by
   unfold W5 at h2;rw[List.getElem?_append_left (by simpa using hi),Aa9]at h2
   cases e:vs[i]? with
   | none=>rw[e]at h2;cases h2
   | some a=>rw[e]at h2;cases h2;rfl
  obtain ⟨u,hu,rv⟩:=r.get ha;have hp:ps[i]? = some y:=by
   rw[<- S.pre,List.getElem?_take_of_lt (by omega)];exact h1
  have ndP:ps.Nodup:=by rw[<- S.pre];exact S.nd.sublist (List.take_sublist _ _)
  refine⟨u,rv,?_⟩;rcases S.par y (List.mem_of_getElem? hp) with k | k
  ·exact .inl ⟨k,aR6 ndP hp hu k⟩
  ·obtain ⟨c,e⟩:=aZ2 (n:=s.heap.objs.size+1) k;refine .inr ⟨.inl k,c,e,?_⟩;have q:=x.cell y c e;rw[aQ9 ndP hp hu (by show scope.names.lookup y≠_;rw[k];decide)]at q
   exact q
 ·exact e0.hok.fresh (Nat.le_of_lt (x.above y c (PySem.mem_of_lookup h)))
 ·unfold W5;show _=N.length;rw[Ab7,Aa3,List.length_replicate];omega
theorem cG1 {CX:CXT}{P:Program}{w:World}{K:PySem.W.Frag}{mg:Str->Option Value}{base:Heap}{k:Nat}{f:Addr}{name qual:Str}{params:Arguments}{body:List Stmt}{scope:Scope}{dV kV doc pm cdv ct oc:Value}{an od:Option Addr}
  {osl:Array (Option Value)} {N ps:List Str} {sp:Sp} (lk:K.lookup f=some ⟨oc,od,.func (PySem.W.fnOf name qual params body scope dV kV doc pm an cdv ct),osl⟩) (hcd:PySem.W.codeIn K cdv qual=true) (S:D7 N ps scope)
  (len:∀vs H Q E,sp vs H Q E->vs.length=ps.length)
  (hbody:∀(A:Around) (outer:List Env) (s:Shared) (H:Hp) (vs:List V) (Q:VK) (E:XK),Room k (A.deeper (envOfC qual scope s.heap.objs.size f cdv))->sp vs H Q E ->
   ∃t,PSs (bG6 CX P w K mg base N qual scope f cdv A outer s H E) body t/\t {nx:=λ_ H'=>Q .non H',rt:=Q} (W5 N vs) H) :
  G3 P w K mg base CX (k+1) f (PySem.W.fnOf name qual params body scope dV kV doc pm an cdv ct) ps sp:=by
 refine⟨len,λA outer s H args us vs Q E hr e0 hb r hsp=>?_⟩
 have hl:=len _ _ _ _ hsp
 have KX:K.In s.heap:=e0.mod.kin.keeps λb o e=>(e0.bs b o e).1
 have lim:s.heap.NoLimit:=e0.mod.nolimit.keeps λb o e=>(e0.bs b o e).1
 have hkind:∀y∈ps.zip us,scope.names.lookup y.1=some .local\/(scope.names.lookup y.1=some .cell/\((cellsFrom (s.heap.objs.size+1) scope.names []).lookup y.1).isSome=true):=λ⟨n,v⟩ hy=>by
  rcases S.par n (List.of_mem_zip hy).1 with q | q
  ·exact .inl q
  ·exact .inr ⟨q,PySem.W.cellsFrom_some _ _ _ (.inl q)⟩
 refine codeAny_call_function hr.depth (KX _ _ lk) rfl S.co S.gen rfl (PySem.W.codeRec_of KX hcd) (hb _ _ _ _ ?_);refine wpAny_newFunctionEnv_cells S.kind hkind λenv he s1 x=>?_
 subst he;refine⟨lim.keeps x.toInCall.keep,codeAny_func ?_⟩;obtain ⟨t,ht,hq⟩:=hbody A outer s H vs Q E (hr.deeper _) hsp;have I:Inv (bG6 CX P w K mg base N qual scope f cdv A outer s H E) [] (W5 N vs) H s1:=bO3 S hr.hd e0 hl r x;refine wpAny_mono (ht [] s1 (W5 N vs) H _ I hq) (λfl s' hs=>?_) λe s' hs=>hs
 have fin:∀{σ':St} {H':Hp} {v:V} {u:Value},Inv (bG6 CX P w K mg base N qual scope f cdv A outer s H E) [] σ' H' s'->RelV v u->Q v H'->CE outer P w H s Q u s':=
  λ{σ' H' v u} J rv q=>⟨v,H',J.os,J.bare,J.base,J.hok,rv,q⟩
 cases fl with
 | ret u=>
  obtain ⟨v,σ',H',J,rv,q⟩:=hs;exact fin J rv q
 | next=>
  obtain ⟨σ',H',J,q⟩:=hs;exact fin (v:=V.non) (u:=Value.none) J rfl q
 | brk=>
  obtain ⟨_,_,_,q⟩:=hs;exact False.elim q
 | cont=>
  obtain ⟨_,_,_,q⟩:=hs;exact False.elim q
section
variable {X:Cx}{x:Str}{p pos:Pos}{e:Expr}{es:List Expr}{t:TA}{id T:String}{r:List V->Hp->VK->Prop}
def tCB (r:List V->Hp->VK->Prop)(t:TA):TE:=λσ H Q=>t σ H λvs H1=>r vs H1 Q
theorem C3 (hc:X0 X (.builtin id) r)(hg:Gl X x)(hm:X.mg x=none)(hv:bootBuiltins x=some (.builtin id))(ha:PA X (e::es) t)(hn:x≠"__name__" := by decide)(hdb:(x==("__debug__" : Str))=false:=by decide)
  (he:starEach (e::es) X.env=(false,eval e X.env)::starEach es X.env:=by rfl) (hpl:(backTo pos (starEach es X.env)).any (·.1)=false:=by rfl):PE X (.Call (.Name x p) (e::es) [] pos) (tCB r t):=by
 refine⟨?_⟩;intro pins s σ H Q I h;refine wpAny_Call_Name_kw (Y1 I hg hm hv ?_ hn hdb);exact PyProof.Rows.callWith_builtin1 (thn (ha pos pins s σ H _ I h) λus s1 ⟨vs,H1,I1,r1,q1⟩=>hc pins s1 σ H1 vs us Q I1 r1 q1) he hpl
theorem M0 (hc:X0 X (.type T) r)(hg:Gl X x)(hm:X.mg x=none)(hv:bootBuiltins x=some (.type T))(ha:PA X (e::es) t)(hn:x≠"__name__" := by decide)(hdb:(x==("__debug__" : Str))=false:=by decide)
  (he:starEach (e::es) X.env=(false,eval e X.env)::starEach es X.env:=by rfl) (hpl:(backTo pos (starEach es X.env)).any (·.1)=false:=by rfl):PE X (.Call (.Name x p) (e::es) [] pos) (tCB r t):=by
 refine⟨?_⟩;intro pins s σ H Q I h;refine wpAny_Call_Name_kw (Y1 I hg hm hv ?_ hn hdb);exact PyProof.Rows.callWith_type1 (thn (ha pos pins s σ H _ I h) λus s1 ⟨vs,H1,I1,r1,q1⟩=>hc pins s1 σ H1 vs us Q I1 r1 q1) he hpl
end
end L2
namespace HT
open PySem PyProof.Rows
def W1:List Int->List Int->Bool
 | [],[]=>false
 | [],_::_=>true
 | _::_,[]=>false
 | x::xs,y::ys=>if x=y then W1 xs ys else decide (x<y)
section
open PySem.SeqAt
open PySem.AutoSeq1 (wpAny_loadPart')
open PySem.MeetsSeq PySem.MeetsSeq2 PySem.MeetsSeq3
end
section
variable {prog:Program}{w:World}{A:Around}{E:Value->Shared->Prop}{s:Shared}
theorem cE1 {t b:Addr}{vs ws:List Value}{Q:Value->Shared->Prop}(ht:IsTup s.heap t vs.toArray)(hb:IsTup s.heap b ws.toArray)(hv:vs≠[])
  (h1:ws=[]->Q (.ref t) s) (h2:ws≠[]->Q (.ref s.heap.objs.size) {s with heap:=s.heap.push {cls:=.type "tuple",data:=.seq (vs++ws).toArray}})
  (hsz:vs.length+ws.length<=sizeLine):wpAny (model prog w) A (binaryOp .Add (.ref t) (.ref b)) Q E s:=by
 obtain ⟨⟨cls,dd,data,sl⟩,ho,hc,n,hd⟩:=id ht;obtain ⟨⟨cls2,dd2,data2,sl2⟩,ho2,hc2,n2,hd2⟩:=id hb;simp only at hc hd hc2 hd2;subst hc hd hc2 hd2;have e:vs.toArray++ws.toArray=(vs++ws).toArray:=by simp
 by_cases hw:ws=[]
 ·exact concat_meets ⟨_,ho,rfl⟩ ⟨_,ho2,rfl⟩ noFill_tuple_add seq_tuple_add PySem.F.slot_tuple_add PySem.F.entry_tuple_add (PySem.F.args_tuple_add_2 _ _)
   (tuple_addW1 t b vs.toArray ws.toArray n n2 dd dd2 sl sl2 (by simpa using hv) (by simp[hw])) ⟨ho,ho2,h1 hw⟩
 ·refine concat_meets ⟨_,ho,rfl⟩ ⟨_,ho2,rfl⟩ noFill_tuple_add seq_tuple_add PySem.F.slot_tuple_add PySem.F.entry_tuple_add (PySem.F.args_tuple_add_2 _ _)
   (tuple_addW2 t b vs.toArray ws.toArray n n2 dd dd2 sl sl2 (by simpa using hv) (by simpa using hw) (by rw[Ab2,Ab2];exact hsz)) ⟨ho,ho2,?_⟩
  rw[e];exact h2 hw
def sIx (n d:Nat):Option Int->Nat
 | none=>d
 | some v=>if v<0 then(v+(n:Int)).toNat else min v.toNat n
theorem cM0 (n d:Nat)(hd:d<=n)(o:Option Int):sIx n d o<=n:=by
 cases o with
 | none=>exact hd
 | some v=>
  show(if v<0 then(v+(n:Int)).toNat else min v.toNat n)<=n
  by_cases hv:v<0
  ·rw[if_pos hv];omega
  ·rw[if_neg hv];exact Nat.min_le_right _ _
theorem bL1 (v:Int)(n d:Nat):(if v<0 then max (v+(n:Int)) 0 else min v (n:Int))=((sIx n d (some v):Nat):Int):=by
 show(if v<0 then max (v+(n:Int)) 0 else min v (n:Int))=(((if v<0 then(v+(n:Int)).toNat else min v.toNat n):Nat):Int)
 by_cases hv:v<0
 ·simp only[if_pos hv];omega
 ·simp only[if_neg hv];omega
theorem bH2 (lo hi:Option Int)(n:Nat):Builtin.Slice.sliceAdjust lo hi 1 (n:Int)=(((sIx n 0 lo:Nat):Int),((sIx n n hi:Nat):Int)):=by
 have h1:¬((1:Int)<0):=by omega
 unfold Builtin.Slice.sliceAdjust;simp only[h1,if_false];refine Prod.ext ?_ ?_
 ·cases lo with
  | none=>rfl
  | some v=>exact bL1 v n 0
 ·cases hi with
  | none=>rfl
  | some v=>exact bL1 v n n
theorem bF3 (i j:Nat):Builtin.Slice.slicePlaces (i:Int) (j:Int) 1=j-i:=by
 unfold Builtin.Slice.slicePlaces;have h1:(1:Int)>0:=by omega
 simp only[h1,if_true,Int.ediv_one];split <;> omega
theorem aK8 {v:Value}{o:Option Int}{Q:Option Int->Shared->Prop}(p:IsPart v o)(h:Q o s):wpAny (model prog w) A (Builtin.Slice.slicePartIndex v) Q E s:=by
 cases p with
 | none=>exact slicePart_none h
 | int i t=>exact slicePart_int h
theorem Y4 {sl:Addr}{vl vu:Value}{lo hi:Option Int}{n:Nat}{Q:Int×Int×Nat->Shared->Prop}(hs:s.heap.IsSliceOf sl vl vu .none)(pl:IsPart vl lo)(pu:IsPart vu hi)
  (h:Q (((sIx n 0 lo:Nat):Int),1,sIx n n hi-sIx n 0 lo) s):wpAny (model prog w) A (Builtin.Slice.sliceApplied (.ref sl) (pure (n:Int))) Q E s:=by
 obtain ⟨os,hos,hcs,hds⟩:=id hs;unfold Builtin.Slice.sliceApplied Builtin.Slice.sliceFields;refine wpAny_bind (wpAny_bind (wpAny_field hos hds (x:=vl) rfl (wpAny_bind (wpAny_field hos hds (x:=vu) rfl (wpAny_bind (wpAny_field hos hds (x:=.none) rfl (wpAny_pure ?_)))))));refine wpAny_bind (slicePart_none ?_);show wpAny _ _ (if((1:Int)==0)=true then _ else _) _ _ s;rw[if_neg (by decide)]
 refine wpAny_bind (aK8 pl (wpAny_bind (aK8 pu (wpAny_bind (wpAny_pure ?_)))));show wpAny _ _ (match Builtin.Slice.sliceAdjust lo hi 1 (n:Int) with | (lo,hi)=>pure (lo,(1:Int),Builtin.Slice.slicePlaces lo hi 1)) _ _ s
 rw[bH2 lo hi n];show wpAny _ _ (pure (((sIx n 0 lo:Nat):Int),(1:Int),Builtin.Slice.slicePlaces ((sIx n 0 lo:Nat):Int) ((sIx n n hi:Nat):Int) 1)) _ _ s;rw[bF3];exact wpAny_pure h
theorem bS9 (xs:Array Value)(i k:Nat):((List.range k).filterMap λ(m:Nat)=>xs[((i:Int)+(m:Int)*1).toNat]?).toArray=((xs.toList.drop i).take k).toArray:=by
 have e:(λ(m:Nat)=>xs[((i:Int)+(m:Int)*1).toNat]?)=λm=>xs[i+m]? := by
  funext m
  have:((i:Int)+(m:Int)*1).toNat=i+m:=by omega
  rw[this]
 rw[e]
 have:=pick_run xs i k
 rw[List.filterMap_map]at this;have e2:((λx=>xs[x]?) ∘ λx=>i+x)=λm=>xs[i+m]? := rfl
 rw[e2]at this;rw[this]
theorem aB5 {t sl:Addr}{items:Array Value}{vl vu:Value}{lo hi:Option Int}{Q:Value->Shared->Prop}(ht:IsTup s.heap t items)(hs:s.heap.IsSliceOf sl vl vu .none)(pl:IsPart vl lo)(pu:IsPart vu hi)
  (hw:¬(sIx items.size 0 lo=0/\sIx items.size items.size hi=items.size))
  (h:Q (.ref s.heap.objs.size) {s with heap:=s.heap.push {cls:=.type "tuple",data:=.seq ((items.toList.drop (sIx items.size 0 lo)).take (sIx items.size items.size hi-sIx items.size 0 lo)).toArray}})
  (hsz:items.size<=sizeLine):wpAny (model prog w) A (getItem (.ref t) (.ref sl)) Q E s:=by
 have htake:sizeOk (.seq ((items.toList.drop (sIx items.size 0 lo)).take (sIx items.size items.size hi-sIx items.size 0 lo)).toArray):=by
  show((items.toList.drop (sIx items.size 0 lo)).take (sIx items.size items.size hi-sIx items.size 0 lo)).toArray.size<=sizeLine
  rw[Ab2,Ad1,List.length_drop,Array.length_toList];omega
 have hj:sIx items.size items.size hi<=items.size:=cM0 _ _ (Aa7 _) hi
 obtain ⟨os,hos,hcs,hds⟩:=id hs;have hTs:s.TypeIs (.ref sl) "slice" := ⟨os,hos,hcs⟩;unfold getItem
 try with_reducible refine wpAny_holding ?_
 first | refine wpAny_bind (wpAny_pure ?_) | skip
 refine wpAny_bind (wpAny_sequenceKey ht.typeIs (by decide) ?_)
 refine wpAny_bind (wpAny_callSpecial?_slot (name:=Str.ofString "__getitem__") ht.typeIs PyProof.Rows.slot_tuple_getitem
  (wpAny_call_entry PyProof.Rows.slot_tuple_getitem ht.typeIs entry_tuple_getitem ?_ (args_tuple_getitem _ _)))
 show wpAny _ _ (Builtin.Tuple.tupleItemsOf (.ref t) >>= _) _ _ s
 refine wpAny_bind (tupleItemsOf_ ht ?_);refine wpAny_bind (wpAny_typeOf hTs ?_);rw[if_pos (by decide)]
 refine wpAny_bind (Y4 hs pl pu ?_);have hno:¬((((sIx items.size 0 lo:Nat):Int)==0&&(1:Int)==1&&(sIx items.size items.size hi-sIx items.size 0 lo)==items.size)=true):=by
  intro q;rw[Bool.and_eq_true,Bool.and_eq_true]at q;have q1:((sIx items.size 0 lo:Nat):Int)=0:=eq_of_beq q.1.1;have q2:sIx items.size items.size hi-sIx items.size 0 lo=items.size:=eq_of_beq q.2;exact hw ⟨by omega,by omega⟩
 show wpAny _ _ (if(((sIx items.size 0 lo:Nat):Int)==0&&(1:Int)==1&&(sIx items.size items.size hi-sIx items.size 0 lo)==items.size)=true then _ else _) _ _ s
 rw[if_neg hno,bS9];first
  | exact wpAny_bind (m:=Builtin.Tuple.tupleExact _) (wpAny_newObj_type (wpAny_pure ⟨_,rfl,wpAny_pure h⟩) htake)
  | exact wpAny_bind (m:=Builtin.Tuple.tupleExact _) (wpAny_newObj_type (wpAny_bind (wpAny_pure (wpAny_pure ⟨_,rfl,wpAny_pure h⟩))) htake)
  | exact wpAny_bind (wpAny_bind (m:=Builtin.Tuple.tupleExact _) (wpAny_newObj_type (wpAny_pure (wpAny_pure ⟨_,rfl,wpAny_pure h⟩)) htake))
  | exact wpAny_bind (wpAny_bind (m:=Builtin.Tuple.tupleExact _) (wpAny_newObj_type (wpAny_pure ⟨_,rfl,wpAny_pure h⟩) htake))
end
end HT
namespace L2
open PySem PySem.Spec PyProof.Rows
abbrev TO:=St->Hp->(Option Int->Hp->Prop)->Prop
structure PO (X:Cx)(e:Option Expr)(t:TO):Prop where
 mk ::
 run :
  ∀(pins:List (Addr×Obj)) (s:Shared) (σ:St) (H:Hp) (Q:Option Int->Hp->Prop),Inv X pins σ H s->t σ H Q ->
   wpAny (model X.prog X.w) X.A (evalPart e X.env) (λu s'=>∃o H',Inv X pins σ H' s'/\IsPart u o/\Q o H') X.xe s
instance {X:Cx} {e:Option Expr} {t:TO}:CoeFun (PO X e t) λ_=>
 (∀(pins:List (Addr×Obj)) (s:Shared) (σ:St) (H:Hp) (Q:Option Int->Hp->Prop),Inv X pins σ H s->t σ H Q ->
  wpAny (model X.prog X.w) X.A (evalPart e X.env) (λu s'=>∃o H',Inv X pins σ H' s'/\IsPart u o/\Q o H') X.xe s):=⟨PO.run⟩
def aI9:TO:=λ_ H Q=>Q none H
def bI3 (t:TE):TO:=λσ H Q=>t σ H λx H1=>∃i,x=.int i/\Q (some i) H1
section
variable {X:Cx}{e:Expr}{te:TE}{lo hi:Option Expr}{tl th:TO}{pos p2:Pos}
theorem t5:PO X none aI9:=by
 refine⟨?_⟩;intro pins s σ H Q I h;rw[evalPart_none];exact wpAny_pure ⟨none,H,I,.none,h⟩
theorem W4 (h:PE X e te):PO X (some e) (bI3 te):=by
 refine⟨?_⟩;intro pins s σ H Q I hw;rw[evalPart_some];refine thn (h pins s σ H _ I hw) λu s1 ⟨x,H1,I1,r1,q1⟩=>?_
 obtain ⟨i,rfl,q⟩:=q1;obtain ⟨t,rfl⟩:=r1;exact⟨some i,H1,I1,.int i t,q⟩
def SlR (X:Cx)(r:V->Option Int->Option Int->Hp->VK->Prop):Prop:=
 ∀(pins:List (Addr×Obj)) (s:Shared) (σ:St) (H:Hp) (x:V) (v vl vu:Value) (lo hi:Option Int) (sl:Addr) (Q:VK),Inv X pins σ H s->RelV x v->s.heap.IsSliceOf sl vl vu .none->IsPart vl lo->IsPart vu hi->r x lo hi H Q ->
  ∃T id,typeLookup (.type T) "__getitem__" = pure (some (.builtin id))/\s.TypeIs v T/\wpAny (model X.prog X.w) X.A (getItem v (.ref sl)) (EP X pins σ Q) X.xe s
def tSl (r:V->Option Int->Option Int->Hp->VK->Prop)(te:TE)(tl th:TO):TE:=λσ H Q=>te σ H λx H1=>tl σ H1 λl H2=>th σ H2 λu H3=>r x l u H3 Q
theorem V4 {r:V->Option Int->Option Int->Hp->VK->Prop}(hr:SlR X r)(he:PE X e te)(hl:PO X lo tl)(hu:PO X hi th):PE X (.Subscript e (.Slice lo hi none p2) pos) (tSl r te tl th):=by
 refine⟨?_⟩;intro pins s σ H Q I h;refine Subscript_ (thn (he pins s σ H _ I h) λv s1 ⟨x,H1,I1,r1,q1⟩=>?_)
 refine wpAny_Slice (thn (hl pins s1 σ H1 _ I1 q1) λvl s2 ⟨l,H2,I2,pl,q2⟩=>thn (hu pins s2 σ H2 _ I2 q2) λvu s3 ⟨u,H3,I3,pu,q3⟩=>?_)
 rw[evalPart_none];refine wpAny_pure ?_;have I4:Inv X pins σ H3 {s3 with heap:=s3.heap.push {cls:=.type "slice",data:=.fields #[vl,vu,.none]}}:=I3.kept (t':=s3.toks) λb ob q=>Aa6 _ q
 obtain ⟨T,id,hT,ht,hg⟩:=hr pins {s3 with heap:=s3.heap.push {cls:=.type "slice",data:=.fields #[vl,vu,.none]}} σ H3 x v vl vu l u s3.heap.objs.size Q I4 r1 (Heap.IsSliceOf.new ..) pl pu q3
 show wpAny (model X.prog X.w) X.A (subscriptTail e (.Slice lo hi none p2) v (.ref s3.heap.objs.size)) (EP X pins σ Q) X.xe {s3 with heap:=s3.heap.push {cls:=.type "slice",data:=.fields #[vl,vu,.none]}}
 exact tail_any (ops:=[.ref s3.heap.objs.size,v]) ht hT hg (by with_unfolding_all rfl)
def aT6 (xs:List V)(lo hi:Option Int):List V:=(xs.drop (HT.sIx xs.length 0 lo)).take (HT.sIx xs.length xs.length hi-HT.sIx xs.length 0 lo)
theorem aH3 (xs:List V)(lo hi:Option Int):(aT6 xs lo hi).length<=xs.length:=by
 unfold aT6;rw[Ad1,List.length_drop];omega
def cW6 (K:PySem.W.Frag):V->Option Int->Option Int->Hp->VK->Prop:=λx lo hi H Q=>∃a xs,x=.ref a/\SqT K H a xs /\
 ¬(HT.sIx xs.length 0 lo=0/\HT.sIx xs.length xs.length hi=xs.length)/\∀p,H p=none->Q (.ref p) (upd H p (.tup (aT6 xs lo hi)))
theorem cN6:SlR X (cW6 X.K):=by
 intro pins s σ H x v vl vu lo hi sl Q I rx hs pl pu h;obtain ⟨a,xs,rfl,hx,hw,q⟩:=h;cases rx;obtain ⟨its,r,ht,hz⟩:=I.tuple hx;have hlen:its.toArray.size=xs.length:=by rw[Ab2];exact r.length.symm
 refine⟨"tuple",_,PyProof.Rows.slot_tuple_getitem.lookup,ht.typeIs,?_⟩;refine HT.aB5 ht hs pl pu (by rw[hlen];exact hw) ?_ (by rw[hlen];exact hz)
 rw[hlen];refine⟨.ref s.heap.objs.size,_,I.laid (t':=s.toks) (o:=.tup (aT6 xs lo hi)) (λb ob q=>Aa6 _ q) (Aa7 _) ?_,rfl,q _ (I.hok.fresh (Aa7 _))⟩
 exact⟨Nat.le_trans (aH3 xs lo hi) hz,_,(r.drop (HT.sIx xs.length 0 lo)).take (HT.sIx xs.length xs.length hi-HT.sIx xs.length 0 lo),Tup0.nw _ _ _⟩
def bX1 (K:PySem.W.Frag):R2:=λx y H Q=>∃a b xs ys,x=.ref a/\y=.ref b/\SqT K H a xs/\SqT K H b ys/\xs≠[]/\xs.length+ys.length<=sizeLine /\
 (ys=[]->Q (.ref a) H)/\(ys≠[]->∀p,H p=none->Q (.ref p) (upd H p (.tup (xs++ys))))
theorem Vals.nil_iff {xs:List V}{us:List Value}(r:Vals xs us):us=[]↔xs=[]:=by
 cases r with
 | nil=>simp
 | cons _ _=>simp
theorem cE6:OpR X (binaryOp .Add) (bX1 X.K):=by
 intro pins s σ H x y v u Q I rx ry h;obtain ⟨a,b,xs,ys,rfl,rfl,ha,hb,hx,hz,q1,q2⟩:=h;cases rx;cases ry;obtain ⟨its,r1,p1,_⟩:=I.tuple ha;obtain ⟨its2,r2,p2,_⟩:=I.tuple hb;refine HT.cE1 p1 p2 (λz=>hx (r1.nil_iff.mp z)) (λz=>⟨.ref a,H,I,rfl,q1 (r2.nil_iff.mp z)⟩) (λz=>?_) (by rw[<- r1.length,<- r2.length];exact hz)
 refine⟨.ref s.heap.objs.size,_,I.laid (t':=s.toks) (o:=.tup (xs++ys)) (λb ob q=>Aa6 _ q) (Aa7 _) ?_,rfl,q2 (λw=>z (r2.nil_iff.mpr w)) _ (I.hok.fresh (Aa7 _))⟩
 exact⟨by rw[Ab7];exact hz,_,r1.append r2,Tup0.nw _ _ _⟩
end
def ixN (n:Nat)(i:Int):Option Nat:=if 0<=i then(if i<n then some i.toNat else none) else if -(n:Int)<=i then some (i+n).toNat else none
def atI {α:Type}(xs:List α)(i:Int):Option α:=(ixN xs.length i).bind λj=>xs[j]?
theorem aV3 {n:Nat}{i:Int}{j:Nat}(h:ixN n i=some j):seqIndex? i n=some j/\j<n /\ -(n:Int)<=i/\i<n:=by
 unfold ixN at h;by_cases h0:0<=i
 ·rw[if_pos h0]at h;by_cases h1:i<n
  ·rw[if_pos h1]at h;have e:i.toNat=j:=Ab4 h;exact⟨by rw[seqIndex_of h0 h1,e],by omega,by omega,h1⟩
  ·rw[if_neg h1]at h;cases h
 ·rw[if_neg h0]at h;by_cases h1 : -(n:Int)<=i
  ·rw[if_pos h1]at h;have e:(i+n).toNat=j:=Ab4 h;exact⟨by rw[seqIndex_neg (by omega) h1,e],by omega,h1,by omega⟩
  ·rw[if_neg h1]at h;cases h
theorem aW9 {α:Type}{xs:List α}{i:Int}{v:α}(h:atI xs i=some v):∃j,seqIndex? i xs.length=some j/\xs[j]? = some v/\j<xs.length /\ -(xs.length:Int)<=i/\i<xs.length:=by
 unfold atI at h;cases e:ixN xs.length i with
 | none=>rw[e]at h;cases h
 | some j=>
  rw[e]at h;obtain ⟨h1,h2,h3,h4⟩:=aV3 e;exact⟨j,h1,h,h2,h3,h4⟩
def cE4 (b:Expr):Prop:=∀o i,subscripted b false o i=operate [o,i] (getItem o i)
def IxR (X:Cx)(r:R2):Prop:=
 ∀(value slice:Expr) (pins:List (Addr×Obj)) (s:Shared) (σ:St) (H:Hp) (x y:V) (v u:Value) (Q:VK),Inv X pins σ H s->RelV x v->RelV y u->r x y H Q ->
  subscripted slice false v u=operate [v,u] (getItem v u)->wpAny (model X.prog X.w) X.A (subscriptTail value slice v u) (EP X pins σ Q) X.xe s
def MtR (X:Cx)(id:String)(r:V->List V->Hp->VK->Prop):Prop:=
 ∀(pins:List (Addr×Obj)) (s:Shared) (σ:St) (H:Hp) (x:V) (xs:List V) (v:Value) (us:List Value) (Q:VK),Inv X pins σ H s->RelV x v->Vals xs us->r x xs H Q ->
  wpAny (model X.prog X.w) X.A (call (.builtin id) (v::us)) (EP X pins σ Q) X.xe s
section
variable {X:Cx}{a b:Expr}{ta tb:TE}{pos:Pos}
theorem IxR.or {r r':R2}(h:IxR X r)(h':IxR X r'):IxR X (λx y H Q=>r x y H Q\/r' x y H Q):=by
 intro value slice pins s σ H x y v u Q I rx ry q hs;rcases q with q | q
 ·exact h value slice pins s σ H x y v u Q I rx ry q hs
 ·exact h' value slice pins s σ H x y v u Q I rx ry q hs
theorem B7 {r:R2}(hr:IxR X r)(ha:PE X a ta)(hb:PE X b tb)(hs:cE4 b):PE X (.Subscript a b pos) (tOp r ta tb):=by
 refine⟨?_⟩;intro pins s σ H Q I h;exact Subscript_ (cN9 ha hb I h λv u s2 x y H2 I2 rx ry q=>hr a b pins s2 σ H2 x y v u Q I2 rx ry q (hs _ _))
def cT9 (K:PySem.W.Frag):R2:=λx y H Q=>∃p xs i v,x=.ref p/\y=.int i/\SqL K H p xs/\atI xs i=some v/\Q v H
def cU5 (K:PySem.W.Frag):R2:=λx y H Q=>∃p xs i v,x=.ref p/\y=.int i/\SqT K H p xs/\atI xs i=some v/\Q v H
def cQ7:R2:=λx y H Q=>∃z i c,x=.str z/\y=.int i/\z.length<=sizeLine/\atI z.cps.toList i=some c/\Q (.str ⟨#[c]⟩) H
theorem ix_list:IxR X (cT9 X.K):=by
 intro value slice pins s σ H x y v u Q I rx ry h hs;obtain ⟨p,xs,i,z,rfl,rfl,hq,he,q⟩:=h;cases rx;obtain ⟨t,rfl⟩:=ry;obtain ⟨its,r,pl,hz⟩:=I.list hq;obtain ⟨j,h1,h2,h3,h4,h5⟩:=aW9 he;obtain ⟨w,ew,rw'⟩:=r.get h2;have hl:=r.length;have hn:=aF9;have fin:EP X pins σ Q w s:=⟨z,H,I,rw',q⟩;by_cases h0:0<=i
 ·have hj:i.toNat=j:=by
   rw[seqIndex_of h0 h5]at h1;exact Ab4 h1
  exact item_listR pl.isList h0 (by omega) (by rw[hj];simpa using ew) fin hs
 ·have hj:(i+(its.toArray.size:Int)).toNat=j:=by
   rw[seqIndex_neg (by omega) h4]at h1
   rw[Ab2,<- hl];exact Ab4 h1
  exact subscriptTail_builtinR (x:=w) pl.isList.typeIs slot_list_getitem.lookup
   (wpAny_getItem_list_neg (Q:=λr s'=>r=w/\EP X pins σ Q r s') pl.isList (by omega) (by rw[Ab2] <;> omega) (by omega) (by rw[hj];simpa using ew) ⟨rfl,fin⟩) hs
theorem ix_tup:IxR X (cU5 X.K):=by
 intro value slice pins s σ H x y v u Q I rx ry h hs;obtain ⟨p,xs,i,z,rfl,rfl,hq,he,q⟩:=h;cases rx;obtain ⟨t,rfl⟩:=ry;obtain ⟨its,r,pl,hz⟩:=I.tuple hq;obtain ⟨j,h1,h2,h3,h4,h5⟩:=aW9 he;obtain ⟨w,ew,rw'⟩:=r.get h2;have hl:=r.length;have hn:=aF9;have fin:EP X pins σ Q w s:=⟨z,H,I,rw',q⟩;exact subscriptTail_builtinR (x:=w) pl.typeIs slot_tuple_getitem.lookup
  (getItem_tuple (j:=j) (Q:=λr s'=>r=w/\EP X pins σ Q r s') pl (by omega) (by omega) (by rw[Ab2,<- hl];exact h1) (by simpa using ew) ⟨rfl,fin⟩) hs
theorem cO8:IxR X cQ7:=by
 intro value slice pins s σ H x y v u Q I rx ry h hs;obtain ⟨z,i,c,rfl,rfl,hz,he,q⟩:=h;obtain ⟨t,rfl⟩:=rx;obtain ⟨t',rfl⟩:=ry;obtain ⟨j,h1,h2,h3,h4,h5⟩:=aW9 he;have hl:z.cps.toList.length=z.length:=by simp[Str.length]
 rw[hl]at h1 h4 h5;have hn:=aF9;exact tail_any (typeIs_str s z t) slot_str_getitem.lookup (getItem_str (c:=c) (by
  have e1:decide (i < -(2^63:Int))=false:=decide_eq_false (by omega)
  have e2:decide (i≥2^63)=false:=decide_eq_false (by omega)
  rw[e1,e2,Bool.or_false]) (by rw[h1];simpa using h2) ⟨.str ⟨#[c]⟩,H,I.tok _,⟨_,rfl⟩,q⟩) hs
def rIx (K:PySem.W.Frag):R2:=λx y H Q=>cT9 K x y H Q\/cU5 K x y H Q\/cQ7 x y H Q
theorem C2:IxR X (rIx X.K):=ix_list.or (ix_tup.or cO8)
theorem bE7 (its:List Value)(n j:Nat)(u:Value):Obj.mapSeq (·.setIfInBounds j u) {cls:=.type "list",data:=.seq its.toArray n}={cls:=.type "list",data:=.seq (its.set j u).toArray n}:=by
 simp[Obj.mapSeq]
theorem Inv.lst {pins:List (Addr×Obj)}{σ:St}{H:Hp}{s:Shared}{p:Addr}{xs:List V}(I:Inv X pins σ H s)(h:H p=some (.lst xs)) :
  ∃(its:List Value) (n:Nat),Vals xs its/\s.heap.get? p=some {cls:=.type "list",data:=.seq its.toArray n}/\xs.length<=sizeLine:=by
 obtain ⟨z,its,n,r,e⟩:=I.hok p _ h;exact⟨its,n,r,e,z⟩
theorem Inv.lstUpd {pins:List (Addr×Obj)}{σ:St}{H:Hp}{s:Shared}{p:Addr}{xs ys:List V}{its its':List Value}{n n':Nat}{f:Obj->Obj}(I:Inv X pins σ H s)(h:H p=some (.lst xs))
  (ho:s.heap.get? p=some {cls:=.type "list",data:=.seq its.toArray n}) (hf:f {cls:=.type "list",data:=.seq its.toArray n}={cls:=.type "list",data:=.seq its'.toArray n'}) (r:Vals ys its') (hz:ys.length<=sizeLine) (t:Nat) :
  Inv X pins σ (upd H p (.lst ys)) {s with heap:=s.heap.update p f,toks:=t}:=by
 have e:(s.heap.update p f).get? p=some {cls:=.type "list",data:=.seq its'.toArray n'}:=by
  rw[Heap.get?_update_self f ho (by rw[hf] <;> rfl),hf]
 refine I.write (x:=p) (e:=p) (by rw[h];trivial) (.inl rfl) (λb u hb q=>(Heap.get?_update_other _ _ (Ne.symm hb)).trans q) ⟨_,e⟩ ?_
 exact⟨hz,its',n',r,e⟩
def bW7:V->V->V->Hp->(Hp->Prop)->Prop:=λo i v H Q=>∃p xs k j,o=.ref p/\i=.int k/\H p=some (.lst xs)/\ixN xs.length k=some j/\Q (upd H p (.lst (xs.set j v)))
theorem aL9:cS7 X bW7:=by
 intro pins s σ H o i v ov iv u Q I ro ri rv h;obtain ⟨p,xs,k,j,rfl,rfl,hp,hj,q⟩:=h;cases ro;obtain ⟨t,rfl⟩:=ri;obtain ⟨its,n,r,ho,hz⟩:=I.lst hp;obtain ⟨h1,h2,h3,h4⟩:=aV3 hj;have hl:=r.length;have hn:=aF9;have I':Inv X pins σ (upd H p (.lst (xs.set j v))) {s with heap:=s.heap.update p (Obj.mapSeq (·.setIfInBounds j u))}:=
  I.lstUpd hp ho (bE7 its n j u) (r.set rv j) (by rw[List.length_set];exact hz) s.toks
 by_cases h0:0<=k
 ·have hk:k.toNat=j:=by
   rw[seqIndex_of h0 h4]at h1;exact Ab4 h1
  exact PySem.W.ki_setAt ho h0 (by omega) (by rw[Ab2,<- hl];exact h4) (by rw[hk];exact⟨_,I',q⟩)
 ·have hk:(k+(its.toArray.size:Int)).toNat=j:=by
   rw[seqIndex_neg (by omega) h3]at h1
   rw[Ab2,<- hl];exact Ab4 h1
  exact PySem.W.ki_setBack ho (by omega) (by rw[Ab2,<- hl];exact h3) (by omega) (by rw[hk];exact⟨_,I',q⟩)
theorem aY1 (lo hi:Option Int)(n:Nat):(sliceBounds lo hi none n).1=((HT.sIx n 0 lo:Nat):Int)/\(sliceBounds lo hi none n).2.1=((HT.sIx n n hi:Nat):Int)/\(sliceBounds lo hi none n).2.2=1:=by
 refine⟨?_,?_,rfl⟩
 ·cases lo with
  | none=>simp[sliceBounds,HT.sIx]
  | some i=>
   simp only[sliceBounds,HT.sIx,Option.getD_none,show(1:Int)>0 by decide,if_true]
   by_cases h:i<0
   ·simp only[h,if_true] <;> omega
   ·simp only[h,if_false] <;> omega
 ·cases hi with
  | none=>simp[sliceBounds,HT.sIx]
  | some i=>
   simp only[sliceBounds,HT.sIx,Option.getD_none,show(1:Int)>0 by decide,if_true]
   by_cases h:i<0
   ·simp only[h,if_true] <;> omega
   ·simp only[h,if_false] <;> omega
theorem aO7 (its:List Value)(lo hi:Option Int):slicePick its.toArray lo hi none=((its.drop (HT.sIx its.length 0 lo)).take (HT.sIx its.length its.length hi-HT.sIx its.length 0 lo)).toArray:=by
 obtain ⟨h1,h2,h3⟩:=aY1 lo hi its.toArray.size;unfold slicePick;rw[h1,h2,h3];simp only[sliceRange_one,pick_run,Ab2] <;> rfl
def bS1 (K:PySem.W.Frag):V->Option Int->Option Int->Hp->VK->Prop:=λx lo hi H Q=>∃a xs,x=.ref a/\SqL K H a xs/\∀p,H p=none->Q (.ref p) (upd H p (.lst (aT6 xs lo hi)))
theorem aY2:SlR X (bS1 X.K):=by
 intro pins s σ H x v vl vu lo hi sl Q I rx hs pl pu h;obtain ⟨a,xs,rfl,hx,q⟩:=h;cases rx;obtain ⟨its,r,ht,hz⟩:=I.list hx;have hlen:=r.length;refine⟨"list",_,slot_list_getitem.lookup,ht.isList.typeIs,?_⟩;refine wpAny_getItem_list_slice ht.isList hs pl pu .none (by simp) ?_ (by rw[Ab2] <;> omega)
 rw[aO7,<- hlen];refine⟨.ref s.heap.objs.size,_,I.laid (t':=s.toks) (o:=.lst (aT6 xs lo hi)) (λb ob q=>Aa6 _ q) (Aa7 _) ?_,rfl,q _ (I.hok.fresh (Aa7 _))⟩
 exact⟨Nat.le_trans (aH3 xs lo hi) hz,_,0,(r.drop (HT.sIx xs.length 0 lo)).take (HT.sIx xs.length xs.length hi-HT.sIx xs.length 0 lo),Ac3 _ rfl⟩
theorem L4:X0 X (.builtin "len") (λxs H Q=>∃p ys,xs=[.ref p]/\(SqL X.K H p ys\/SqT X.K H p ys)/\Q (.int ys.length) H):=by
 intro pins s σ H xs us Q I r h;obtain ⟨p,ys,rfl,hq,q⟩:=h;obtain ⟨u,rfl,rx⟩:=v7 r;cases rx;have hn:=aF9;rcases hq with hq | hq
 ·obtain ⟨its,r',pl,hz⟩:=I.list hq;have hlen:=r'.length;exact Calls.call_len_list pl.isList (by simp only[Ab2] <;> omega) ⟨.int ys.length,H,I.tok _,⟨s.toks+1,by rw[Ab2,hlen]⟩,q⟩
 ·obtain ⟨its,r',pl,hz⟩:=I.tuple hq;have hlen:=r'.length;exact len_tuple pl (by simp only[Ab2] <;> omega) ⟨.int ys.length,H,I.tok _,⟨s.toks+1,by rw[Ab2,hlen]⟩,q⟩
theorem aX3:X0 X (.type "list") (λxs H Q=>∃p ys,xs=[.ref p]/\(SqL X.K H p ys\/SqT X.K H p ys)/\∀l,H l=none->Q (.ref l) (upd H l (.lst ys))):=by
 intro pins s σ H xs us Q I r h;obtain ⟨p,ys,rfl,hq,q⟩:=h;obtain ⟨u,rfl,rx⟩:=v7 r;cases rx;have fin:∀(its:List Value),Vals ys its->ys.length<=sizeLine->∀(h':Heap) (c':Nat),(∀b o',s.heap.get? b=some o'->h'.get? b=some o') ->
   h'.get? s.heap.objs.size=some {cls:=.type "list",dict:=none,data:=.seq its.toArray c',slots := #[]}->EP X pins σ Q (.ref s.heap.objs.size) {s with heap:=h'}:=λits r' hz h' c' kp e=>
  ⟨.ref s.heap.objs.size,_,I.laid (t':=s.toks) kp (Aa7 _) (show ObjOk X.prog X.w _ h' _ (.lst ys) from⟨hz,its,c',r',e⟩),rfl,q _ (I.hok.fresh (Aa7 _))⟩
 rcases hq with hq | hq
 ·obtain ⟨its,r',pl,hz⟩:=I.list hq;have hlen:=r'.length;obtain ⟨o,ho,hc,n,hd⟩:=pl.isList;exact call_list_seq p (.inl rfl) ho hc hd (λh' c' kp e=>fin its r' hz h' c' kp e) (by simp only[Ab2] <;> omega)
 ·obtain ⟨its,r',pl,hz⟩:=I.tuple hq;have hlen:=r'.length;obtain ⟨o,ho,hc,n,hd⟩:=pl;exact call_list_seq p (.inr rfl) ho hc hd (λh' c' kp e=>fin its r' hz h' c' kp e) (by simp only[Ab2] <;> omega)
theorem P5:X0 X (.type "tuple") (λxs H Q=>∃p ys,xs=[.ref p]/\((SqL X.K H p ys/\∀l,H l=none->Q (.ref l) (upd H l (.tup ys)))\/(SqT X.K H p ys/\Q (.ref p) H))):=by
 intro pins s σ H xs us Q I r h;obtain ⟨p,ys,rfl,h⟩:=h;obtain ⟨u,rfl,rx⟩:=v7 r;cases rx;rcases h with ⟨hq,q⟩ | ⟨hq,q⟩
 ·obtain ⟨its,r',pl,hz⟩:=I.list hq;have hlen:=r'.length;refine call_tuple_list pl.isList (λh' kp=>?_) (by simp only[Ab2] <;> omega)
  have I1:Inv X pins σ H {s with heap:=h'}:=I.kept (t':=s.toks) kp
  have I2:Inv X pins σ (upd H h'.objs.size (.tup ys)) {s with heap:=h'.push {cls:=.type "tuple",data:=.seq its.toArray}}:=
   I1.laid (t':=s.toks) (λb o e=>Aa6 _ e) (Aa7 _) (show ObjOk X.prog X.w _ _ _ (.tup ys) from⟨hz,its,r',Tup0.nw _ _ _⟩)
  exact⟨.ref h'.objs.size,_,I2,rfl,q _ (I1.hok.fresh (Aa7 _))⟩
 ·obtain ⟨its,r',pl,hz⟩:=I.tuple hq;exact call_tuple_same pl ⟨.ref p,H,I,rfl,q⟩
def tyV (K:PySem.W.Frag)(T:String)(x:V)(H:Hp):Prop:=match x with
 | .str _=>T = "str"
 | .int _=>T = "int"
 | .ref p=>(T = "list" /\ ∃xs,SqL K H p xs)\/(T = "tuple" /\ ∃xs,SqT K H p xs) \/
   (T = "dict" /\ ((∃kvs,H p=some (.dK kvs))\/∃kvs,H p=some (.dT kvs)))\/(T = "set" /\ ∃S n,H p=some (.set S n))
 | _=>False
theorem bT1 {pins:List (Addr×Obj)}{σ:St}{H:Hp}{s:Shared}{T:String}{x:V}{v:Value}(I:Inv X pins σ H s)(r:RelV x v)(ty:tyV X.K T x H) :
  s.TypeIs v T/\∀a,v=.ref a->∃ob,s.heap.get? a=some ob/\ob.dict=none:=by
 cases x with
 | str z=>
  obtain ⟨t,rfl⟩:=r;cases (show T = "str" from ty)
  exact⟨typeIs_str s z t,λ_ e=>nomatch e⟩
 | int i=>
  obtain ⟨t,rfl⟩:=r;cases (show T = "int" from ty)
  exact⟨typeIs_int s i t,λ_ e=>nomatch e⟩
 | ref p=>
  cases r
  rcases ty with ⟨rfl,xs,hq⟩ | ⟨rfl,xs,hq⟩ | ⟨rfl,hk⟩ | ⟨rfl,S,n,hk⟩
  ·obtain ⟨its,_,pl,_⟩:=I.list hq;refine⟨pl.isList.typeIs,λa e=>?_⟩
   cases e
   obtain ⟨o,n,e,c,hd,_⟩:=pl;exact⟨o,e,hd⟩
  ·obtain ⟨its,_,p0,_⟩:=I.tuple0 hq;obtain ⟨o,h1,h2,_,h3⟩:=p0;refine⟨⟨o,h1,h2⟩,λa e=>?_⟩
   cases e
   exact⟨o,h1,h3⟩
  ·have z:∃o,s.heap.get? p=some o/\o.ExactDict:=by
    rcases hk with ⟨kvs,hk⟩ | ⟨kvs,hk⟩
    ·obtain ⟨_,_,_,_,o,_,_,e,ex,_⟩:=I.hok p _ hk;exact⟨o,e,ex⟩
    ·obtain ⟨_,_,_,_,o,_,_,e,ex,_⟩:=I.hok p _ hk;exact⟨o,e,ex⟩
   obtain ⟨o,e,ex⟩:=z;refine⟨⟨o,e,ex.1⟩,λa e2=>?_⟩
   cases e2
   exact⟨o,e,ex.2.1⟩
  ·obtain ⟨o,_,_,_,e,ex,_⟩:=I.hok p _ hk;refine⟨⟨o,e,ex.1⟩,λa e2=>?_⟩
   cases e2
   exact⟨o,e,ex.2.1⟩
 | _=>exact False.elim ty
def cM1 (K:PySem.W.Frag)(T:String)(r:V->List V->Hp->VK->Prop)(to:TE):TE:=λσ H Q=>to σ H λx H1=>tyV K T x H1/\r x [] H1 Q
def tBM (K:PySem.W.Frag)(T:String)(r:V->List V->Hp->VK->Prop)(to:TE)(t:TA):TE:=λσ H Q=>to σ H λx H1=>tyV K T x H1/\t σ H1 λxs H2=>r x xs H2 Q
variable {o e:Expr}{es:List Expr}{to:TE}{t:TA}{name:Str}{apos cpos:Pos}{T id:String}{r:V->List V->Hp->VK->Prop}
theorem aU6 (pa:PlainAttrs T)(slot:Slot T name id)(hty:typeOf (.builtin id)=pure (.type "method_descriptor"))(hm:MtR X id r)(ho:PE X o to)
  (hbase:attributeBase o name X.env (eval o X.env)=eval o X.env:=by rfl) (hline:(apos.endLine==cpos.line)=true:=by rfl):PE X (.Call (.Attribute o name apos) [] [] cpos) (cM1 X.K T r to):=by
 refine⟨?_⟩;intro pins s σ H Q I h;refine wpAny_Call_method0_late hbase hline (thn (ho pins s σ H _ I h) λv s1 ⟨x,H1,I1,r1,ty,q1⟩=>?_)
 obtain ⟨h1,h2⟩:=bT1 I1 r1 ty;exact⟨T,id,pa,slot,hty,h1,h2,Calls.callWith_builtin rfl (PySem.evalArgs_none (hm pins s1 σ H1 x [] v [] Q I1 r1 .nil q1))⟩
theorem N4 (pa:PlainAttrs T)(slot:Slot T name id)(hty:typeOf (.builtin id)=pure (.type "method_descriptor"))(hm:MtR X id r)(ho:PE X o to)(ha:PA X (e::es) t)
  (hbase:attributeBase o name X.env (eval o X.env)=eval o X.env:=by rfl)
  (hfew:((backTo cpos (starEach (e::es) X.env)).all (λx => !x.1)&&(backToKw cpos (keywordEach [] X.env)).all (λx=>x.1.isSome)
   && decide ((e::es).length+([]:List Keyword).length+(if([]:List Keyword).isEmpty then 0 else 1)<30))=true:=by rfl)
  (hline:(apos.endLine==cpos.line)=true:=by rfl) (hs:starEach (e::es) X.env=(false,eval e X.env)::starEach es X.env:=by rfl) (hplain:(backTo cpos (starEach es X.env)).any (·.1)=false:=by rfl) :
  PE X (.Call (.Attribute o name apos) (e::es) [] cpos) (tBM X.K T r to t):=by
 refine⟨?_⟩;intro pins s σ H Q I h;refine wpAny_Call_method_late hbase hfew hline rfl (thn (ho pins s σ H _ I h) λv s1 ⟨x,H1,I1,r1,ty,q1⟩=>?_)
 obtain ⟨h1,h2⟩:=bT1 I1 r1 ty;refine⟨T,id,pa,slot,hty,h1,h2,?_⟩;have hA:=ha cpos pins s1 σ H1 _ I1 q1;rw[hs]at hA ⊢;refine Calls.callWith_builtin (by show(false||(backTo cpos (starEach es X.env)).any (·.1))=false;rw[hplain] <;> rfl) (Calls.evalArgs_plain ?_)
 exact thn hA λus s2 ⟨vs,H2,I2,r2,q2⟩=>hm pins s2 σ H2 x vs v us Q I2 r1 r2 q2
end
def MtM (X:Cx)(id:String)(r:V->List V->Hp->VK->Prop):Prop:=
 ∀(pins:List (Addr×Obj)) (s:Shared) (σ:St) (H:Hp) (x:V) (xs:List V) (v:Value) (us:List Value) (Q:VK),Inv X pins σ H s->RelV x v->Vals xs us->r x xs H Q ->
  wpAny (model X.prog X.w) X.A (call (.builtin id) (v::us)) (EP X pins σ Q) X.xe s
theorem Vals.one:∀{x:V} {us:List Value},Vals [x] us->∃u,us=[u]/\RelV x u
 | _,_,.cons r .nil=>⟨_,rfl,r⟩
theorem Vals.zero:∀{us:List Value},Vals [] us->us=[]
 | _,.nil=>rfl
theorem Vals.dropLast {xs:List V}{us:List Value}(h:Vals xs us):Vals xs.dropLast us.dropLast:=by
 induction h with
 | nil=>exact .nil
 | cons r t ih=>
  cases t with
  | nil=>exact .nil
  | cons q t'=>exact .cons r ih
theorem Vals.eraseIdx:∀{xs:List V} {us:List Value} (i:Nat),Vals xs us->Vals (xs.eraseIdx i) (us.eraseIdx i)
 | _,_,_,.nil=>.nil
 | _,_,0,.cons _ t=>t
 | _,_,i+1,.cons r t=>.cons r (Vals.eraseIdx i t)
theorem Vals.rep {xs:List V}{us:List Value}(h:Vals xs us):∀k:Nat,Vals (List.replicate k xs).flatten (List.replicate k us).flatten
 | 0=>.nil
 | k+1=>by
  rw[List.replicate_succ,List.replicate_succ,List.flatten_cons,List.flatten_cons];exact Vals.append h (Vals.rep h k)
theorem bE4 {α:Type}(l:List α):l.eraseIdx (l.length-1)=l.dropLast:=by
 induction l with
 | nil=>rfl
 | cons a r ih=>
  cases r with
  | nil=>rfl
  | cons b r=>
   have e:(a::b::r).length-1=((b::r).length-1)+1:=by
    have h1:(a::b::r).length=r.length+2:=rfl
    have h2:(b::r).length=r.length+1:=rfl
    omega
   rw[e,List.eraseIdx_cons_succ,ih]
   all_goals rfl
theorem aS6 {α:Type}:∀(l:List α) (i:Nat),(l.eraseIdx i).length<=l.length
 | [],_=>Aa7 _
 | _::_,0=>Nat.le_succ _
 | _::r,i+1=>Nat.succ_le_succ (aS6 r i)
theorem aQ3 (its:List Value):∀(k:Nat) (acc:List Value),
  List.foldl (λx1 x2=>x1++x2) acc.toArray (List.replicate k its.toArray)=(acc++(List.replicate k its).flatten).toArray
 | 0,acc=>by simp
 | k+1,acc=>by
  have e:acc.toArray++its.toArray=(acc++its).toArray:=by simp
  have e2:(acc++its)++(List.replicate k its).flatten=acc++(List.replicate (k+1) its).flatten:=by
   rw[List.replicate_succ,List.flatten_cons,Ad7]
  rw[<- e2,<- aQ3 its k (acc++its),<- e,List.replicate_succ,List.foldl_cons]
section
variable {X:Cx}{pins:List (Addr×Obj)}{σ:St}{H:Hp}{s:Shared}{l b:Addr}{xs ys zs:List V}
theorem Inv.lset {its its':List Value}{n:Nat}{f:Array Value->Array Value}{t':Nat}(I:Inv X pins σ H s)(hH:H l=some (.lst xs))
  (e:s.heap.get? l=some {cls:=.type "list",data:=.seq its.toArray n}) (hf:f its.toArray=its'.toArray) (hv:Vals ys its') (hz:ys.length<=sizeLine) :
  Inv X pins σ (upd H l (.lst ys)) {s with heap:=s.heap.update l (Obj.mapSeq f),toks:=t'}:=by
 have q:=PySem.IsL.update e f
 rw[hf]at q;refine I.write (x:=l) (e:=l) (by rw[hH];exact trivial) (.inl rfl) (λb' u hb hu=>(Heap.get?_update_other s.heap (Obj.mapSeq f) (Ne.symm hb)).trans hu) ⟨_,q⟩ ?_
 exact⟨hz,its',_,hv,q⟩
theorem Inv.lnew {its:List Value}{t':Nat}(I:Inv X pins σ H s)(hv:Vals ys its)(hz:ys.length<=sizeLine) :
  Inv X pins σ (upd H s.heap.objs.size (.lst ys)) {s with heap:=s.heap.push {cls:=.type "list",data:=.seq its.toArray},toks:=t'}:=
 I.laid (λ_ _ q=>Aa6 _ q) (Aa7 _) ⟨hz,its,0,hv,Ac3 _ rfl⟩
theorem Inv.fresh (I:Inv X pins σ H s):H s.heap.objs.size=none:=I.hok.fresh (Aa7 _)
theorem Inv.lstM (I:Inv X pins σ H s)(hH:H l=some (.lst xs)):xs.length<=sizeLine/\∃(its:List Value) (n:Nat),Vals xs its/\xs.length=its.length/\s.heap.get? l=some {cls:=.type "list",data:=.seq its.toArray n}:=by
 obtain ⟨z,its,n,r,e⟩:=I.hok l _ hH;exact⟨z,its,n,r,r.length,e⟩
theorem bB9 {n:Nat}(h:n<=sizeLine):Builtin.List.listTooLong n=false:=by
 unfold Builtin.List.listTooLong;exact decide_eq_false (by omega)
end
section
variable {X:Cx}
def aD9:V->List V->Hp->VK->Prop:=λx vs H Q=>∃l xs y,x=.ref l/\vs=[y]/\H l=some (.lst xs)/\xs.length<sizeLine/\Q .non (upd H l (.lst (xs++[y])))
theorem D8:MtM X "list.append" aD9:=by
 intro pins s σ H x vs v us Q I rx rv h;obtain ⟨l,xs,y,rfl,rfl,hH,hz,q⟩:=h;cases rx;obtain ⟨u,rfl,ru⟩:=rv.one;obtain ⟨z,its,n,r,hl,e⟩:=I.lstM hH;refine call_meets F.slot_list_append ⟨_,e,rfl⟩ F.entry_list_append (F.args_list_append_2 _ _) (PySem.list_append l its.toArray n u (by rw[Ab2];omega)) ⟨e,?_⟩
 refine⟨.non,_,I.lset (its':=its++[u]) hH e (by simp) (r.append (.cons ru .nil)) ?_,rfl,q⟩
 rw[Ab7,List.length_singleton];omega
def bI8:V->List V->Hp->VK->Prop:=λx vs H Q=>∃l b xs zs,x=.ref l/\vs=[.ref b]/\H l=some (.lst xs)/\H b=some (.lst zs)/\xs.length+zs.length<=sizeLine/\Q .non (upd H l (.lst (xs++zs)))
theorem bO8:MtM X "list.extend" bI8:=by
 intro pins s σ H x vs v us Q I rx rv h;obtain ⟨l,b,xs,zs,rfl,rfl,hH,hB,hz,q⟩:=h;cases rx;obtain ⟨u,rfl,ru⟩:=rv.one;cases ru;obtain ⟨z,its,n,r,hl,e⟩:=I.lstM hH;obtain ⟨z2,its2,n2,r2,hl2,e2⟩:=I.lstM hB;have hsz:its.toArray.size+its2.toArray.size<=sizeLine:=by rw[Ab2,Ab2];omega
 have hlong:¬(!its.toArray.isEmpty&&Builtin.List.listTooLong (its.toArray.size+its2.toArray.size))=true:=by
  rw[bB9 hsz,Bool.and_false];exact Bool.false_ne_true
 refine call_meets F.slot_list_extend ⟨_,e,rfl⟩ F.entry_list_extend (F.args_list_extend_2 _ _)
  (AutoSeq1.list_extend_list_list_0 l its.toArray n b its2.toArray n2 hlong (by rw[Ab2];omega) (by omega)) ⟨e,e2,?_⟩
 refine⟨.non,_,I.lset (its':=its++its2) hH e (by simp) (r.append r2) ?_,rfl,q⟩
 rw[Ab7];omega
def cL8:V->List V->Hp->VK->Prop:=λx vs H Q=>∃l xs y,x=.ref l/\vs=[]/\H l=some (.lst xs)/\xs[xs.length-1]? = some y/\Q y (upd H l (.lst xs.dropLast))
theorem aX0:MtM X "list.pop" cL8:=by
 intro pins s σ H x vs v us Q I rx rv h;obtain ⟨l,xs,y,rfl,rfl,hH,hy,q⟩:=h;cases rx;have hus:=rv.zero;subst hus;obtain ⟨z,its,n,r,hl,e⟩:=I.lstM hH;obtain ⟨u,hu,ru⟩:=r.get hy;have hy':its.toArray[its.toArray.size-1]? = some u:=by
  show its.toArray[its.length-1]? = some u
  rw[<- Array.getElem?_toList,<- hl];exact hu
 refine call_meets F.slot_list_pop ⟨_,e,rfl⟩ F.entry_list_pop (F.args_list_pop_1 _) (MeetsSeq.list_pop_last l its.toArray n u hy' (by rw[Ab2];omega)) ⟨e,?_⟩
 refine⟨y,_,I.lset (its':=its.dropLast) hH e ?_ r.dropLast ?_,ru,q⟩
 ·show its.toArray.eraseIdxIfInBounds (its.toArray.size-1)=its.dropLast.toArray
  rw[Ab2,List.eraseIdxIfInBounds_toArray,bE4]
 ·rw[List.length_dropLast];omega
def bQ8:V->List V->Hp->VK->Prop:=λx vs H Q=>∃l xs i k y,x=.ref l/\vs=[.int i]/\H l=some (.lst xs) /\ -(2^63)<=i/\i<2^63/\seqIndex? i xs.length=some k/\xs[k]? = some y/\Q y (upd H l (.lst (xs.eraseIdx k)))
theorem bT3:MtM X "list.pop" bQ8:=by
 intro pins s σ H x vs v us Q I rx rv h;obtain ⟨l,xs,i,k,y,rfl,rfl,hH,h1,h2,hk,hy,q⟩:=h;cases rx;obtain ⟨u,rfl,ru⟩:=rv.one;obtain ⟨t,rfl⟩:=ru;obtain ⟨z,its,n,r,hl,e⟩:=I.lstM hH;obtain ⟨w,hw,rw'⟩:=r.get hy;refine call_meets F.slot_list_pop ⟨_,e,rfl⟩ F.entry_list_pop (F.args_list_pop_2 _ _)
  (MeetsSeq.list_pop_at l its.toArray n i t k w (fitsIndex_both h1 h2) (by rw[Ab2,<- hl];exact hk) (by rw[<- Array.getElem?_toList];exact hw) (by rw[Ab2];omega)) ⟨e,?_⟩
 refine⟨y,_,I.lset (its':=its.eraseIdx k) hH e ?_ (r.eraseIdx k) ?_,rw',q⟩
 ·show its.toArray.eraseIdxIfInBounds k=(its.eraseIdx k).toArray
  rw[List.eraseIdxIfInBounds_toArray]
 ·have:=aS6 xs k
  omega
def cQ0:R2:=λx y H Q=>∃l k xs,x=.ref l/\y=.int k/\H l=some (.lst xs) /\ -(2^63)<=k/\k<2^63/\xs.length*k.toNat<=sizeLine /\
 ∀p,H p=none->Q (.ref p) (upd H p (.lst (List.replicate k.toNat xs).flatten))
theorem cB2 {α:Type}(xs:List α)(k:Nat):(List.replicate k xs).flatten.length=k*xs.length:=by
 induction k with
 | zero=>simp
 | succ k ih=>rw[List.replicate_succ,List.flatten_cons,Ab7,ih,Nat.succ_mul,Nat.add_comm]
theorem bY4:OpR X (binaryOp .Mult) cQ0:=by
 intro pins s σ H x y v u Q I rx ry h;obtain ⟨l,k,xs,rfl,rfl,hH,h1,h2,hz,q⟩:=h;cases rx;obtain ⟨t,rfl⟩:=ry;obtain ⟨z,its,n,r,hl,e⟩:=I.lstM hH;have hlen:its.toArray.size*k.toNat<=sizeLine:=by rw[Ab2,<- hl];exact hz
 have hcap:¬its.toArray.size*k.toNat>(2^63-1) / 8:=by
  have:(sizeLine:Nat)<=(2^63-1) / 8:=by decide
  omega
 have hfit:¬(!Builtin.List.listFitsIndex k)=true:=by
  rw[fitsIndex_both h1 h2];exact Bool.false_ne_true
 have hlong:¬Builtin.List.listTooLong (its.toArray.size*k.toNat)=true:=by
  rw[bB9 hlen];exact Bool.false_ne_true
 have hnew:List.foldl (λx1 x2=>x1++x2) #[] (List.replicate (if its.toArray.isEmpty=true then 0 else k.toNat) its.toArray)=(List.replicate k.toNat its).flatten.toArray:=by
  have f0:∀m:Nat,List.foldl (λx1 x2=>x1++x2) #[] (List.replicate m its.toArray)=(List.replicate m its).flatten.toArray:=λm=>by
   have:=aQ3 its m []
   rw[List.nil_append]at this;exact this
  rw[f0];cases its with
  | nil=>simp
  | cons a r'=>rw[if_neg (by simp)]
 refine wpAny_binaryOp_repeat_ref (T := "list") (U := "int") (by decide) ⟨_,e,rfl⟩ (λs'=>typeIs_int s' k t) noFill_list_mul F.fills_int_mul F.slot_int_rmul repeat_list F.slot_int_index.lookup
  (call_meets F.slot_int_rmul (typeIs_int s k t) F.entry_int_rmul (F.args_int_rmul_2 _ _) (int___rmul___int_list k t l its.toArray n)
   ⟨e,rfl,⟨_,e,rfl⟩,call_meets F.slot_list_mul ⟨_,e,rfl⟩ F.entry_list_mul (F.args_list_mul_2 _ _) (AutoListH.list___mul___list_int_3 l its.toArray n k t hfit hcap hlong) ⟨e,?_⟩⟩)
 rw[hnew];exact⟨.ref _,_,I.lnew (t':=s.toks) (r.rep k.toNat) (by rw[cB2,Nat.mul_comm];exact hz),rfl,q _ I.fresh⟩
end
end L2
namespace Att
open PySem PySem.W PySem.Calls PyProof.Rows
theorem aH6 {P:Params}{h:Heap}:∀(ns:List Int) (vs:List Value),WellAll P h vs (ns.map WData.int)->IntsAre vs ns:=by
 intro ns;induction ns with
 | nil=>
  intro vs w;rw[List.map_nil]at w;cases w;exact .nil
 | cons n ns ih=>
  intro vs w;rw[Ac7]at w;cases w with
  | cons a b=>
   cases a
   exact .cons _ _ (ih _ b)
theorem bP5 {l:OpenLaw}{n:Nat}(hn:l.most=some n){P:Params}{h:Heap}{args:List WData}{vals:List Value}
  (hpre:l.row.toRowW.claim.pre args=true) (hwl:WellAll P h vals args) :
  ∃a vs ns,vals=[Value.ref a]/\args=[WData.list (ns.map WData.int)]/\h.get? a=some {cls:=.type "list",data:=.seq vs.toArray}/\IntsAre vs ns/\ns.length<=n:=by
 have hsh:WShape.hasAll [] args [.list .int]=true:=(pre_splitW hpre).1
 have hc:l.pre.holds [] {args:=args}=true:=(pre_splitW hpre).2
 obtain ⟨d,r,rfl,h1,h2⟩:=hasAllW_cons hsh;obtain rfl:=hasAllW_nil h2;obtain ⟨xs,rfl,h3⟩:=hasW_list h1;obtain ⟨ns,rfl⟩:=items_int h3;have hlen:ns.length<=n:=by
  unfold OpenLaw.pre at hc;have h4:(WTm.not (.lt (.lit (.int (n:Int))) (.len (.arg 0)))).holds [] {args:=[.list (ns.map .int)]}=true:=by
   have h4:=(holds_andW hc).1
   rw[hn]at h4;exact h4
  have h5:=condW_of h4 (w_not (w_lt w_lit (w_len_list (w_arg rfl))))
  rw[Aa3]at h5;refine Nat.le_of_not_lt λq=>?_
  have q':(n:Int)<((ns.length:Nat):Int):=by omega
  first
   | (rw[decide_eq_true q']at h5;exact absurd h5 (by decide))
   | (simp at h5;omega)
 cases hwl with
 | cons w1 w2=>
  cases w2
  cases w1 with
  | list ho hall=>exact⟨_,_,ns,rfl,rfl,ho,aH6 ns _ hall,hlen⟩
theorem bO7 (l:OpenLaw)(args:List WData):l.row.toRowW.claim.post args (.bool true) args=true:=
 postW_of (r:=l.row.toRowW) (X:=(true==true))
  (show WShape.has [] (.bool true) .bool=true by first | rfl | decide | simp[WShape.has,WShape.arms,WShape.armsAll])
  (show(WTm.eq .res (.lit (.bool true))).value [] {args:=args,res:=some (.bool true),after:=args}=some (.bool (true==true)) from w_eq_bool (w_res rfl) w_lit) rfl
theorem bC7 {l:OpenLaw}{n:Nat}{q:Program}{loose:List Str}{XP:(Str->Option Value)->Heap->Prop}{YP:World->Heap->Prop}{d:DefRec}
  (hn:l.most=some n) (hdf:d.params.defaults=[])
  (call:∀(w:World) (s₀ s₁:Shared) (mg mb:Str->Option Value) (fa:Addr) (o:Obj) (pm cd doc:Value) (a:Addr) (vs:List Value) (ns:List Int),
   Ground q loose [] XP w s₀ mg mb s₁.heap->YP w s₁.heap ->
   s₁.heap.get? fa=some o->o.data=.func (docDef d.name d.params d.body d.scope pm cd doc)->s₁.heap.CodeRec cd d.name->mg d.name=some (.ref fa) ->
   s₁.heap.get? a=some {cls:=.type "list",data:=.seq vs.toArray}->IntsAre vs ns->ns.length<=n->s₁.gens = #[] ->
   codeAny (model l.prog w) callerA (.call (.ref fa) ⟨[.ref a],[]⟩) (λr s'=>r=.ok (.ret (.bool true))/\OldK s₁.heap s'.heap/\s'.os=s₁.os/\AllBare s'.gens) s₁) :
  WalkO q loose XP YP l.row.toRowW d [] (λf vs=>PySem.call f vs):=by
 intro w s₀ s₁ mg mb G Y fa o pm cd doc dV kV ho hd hcd hD hmg hg args vals as hpre hlay hrd hwl hlo;obtain rfl:dV=.none:=Dflts.none hD hdf;obtain rfl:kV=.none:=Dflts.noKw hD;obtain ⟨a,vs,ns,rfl,rfl,hobj,hints,hlen⟩:=bP5 hn hpre hwl;refine enter_call (codeAny_mono (call w s₀ s₁ mg mb fa o pm cd doc a vs ns G Y ho (fd_plain hd) hcd hmg hobj hints hlen hg) λr s' hq=>?_)
 obtain ⟨rfl,h2,h3,h4⟩:=hq;exact⟨.inl ⟨.bool true,.bool true,[],rfl,λ_=>rfl,.bool true,bO7 l _,λ_=>⟨List.Pairwise.nil,λ_ hm=>(nomatch hm)⟩⟩,h2,h3,h4⟩
section
variable {prog:Program}{w:World}{A:Around}{E:Value->Shared->Prop}{s:Shared}{K:Frag}
def bH8 (h:Heap):Heap:={h with objs := #[]}
theorem g7 (h:Heap)(b:Addr):(bH8 h).get? b=none:=by
 cases e:(bH8 h).get? b with
 | none=>rfl
 | some o=>exact absurd (Ab3 e) (Nat.not_lt_zero _)
theorem cO1 {h:Heap}{L:Addr}{m:Str->Option Value}(n:h.Ns L m):Fr (bH8 h) L h m:=
 ⟨n,λb o e=>(by rw[g7]at e;cases e),Nat.zero_le _⟩
end
end Att
namespace L2
open PySem PySem.Spec PyProof.Rows
theorem T4:∀{vs:List Value} {ns:List Int},IntsAre vs ns->Vals (ns.map V.int) vs
 | _,_,.nil=>.nil
 | _,_,.cons n t h=>.cons ⟨t,rfl⟩ (T4 h)
def D6 (s:Stmt):Arguments:=match s with
 | .FunctionDef _ a _ _ _ _ _ _ _ _=>a
 | _=>{posonlyargs:=[],args:=[],vararg:=none,kwonlyargs:=[],kw_defaults:=[],kwarg:=none,defaults:=[]}
def D0 (s:Stmt):List Stmt:=match s with
 | .FunctionDef _ _ b _ _ _ _ _ _ _=>b
 | _=>[]
def A9 (s:Stmt):Scope:=match s with
 | .FunctionDef _ _ _ _ _ _ sc _ _ _=>sc
 | _=>{kind:=.function,names:=[],isGenerator:=false,isCoroutine:=false}
abbrev CX0:CXT:=λ_ _ _ _ _ _=>False
abbrev E0:XK:=λ_ _ _=>False
theorem J5 {X:Cx}:bH4 CX0 X E0:=λ_ _ _ _ _ _ _ h=>h.elim
structure Fun (K:PySem.W.Frag)(x qual:Str)(st:Stmt)(f:Addr)(fd:FuncData):Prop where
 ex:∃(oc:Value) (od:Option Addr) (kV doc pm:Value) (an:Option Addr) (cdv ct:Value) (osl:Array (Option Value)),
  fd=PySem.W.fnOf x qual (D6 st) (D0 st) (A9 st) .none kV doc pm an cdv ct/\K.lookup f=some ⟨oc,od,.func fd,osl⟩/\PySem.W.codeIn K cdv qual=true
 kp:PySem.W.keepIn K (.ref f)=true
section
variable {P:Program}{w:World}{K:PySem.W.Frag}{mg:Str->Option Value}{base:Heap}
theorem Fun.ok {x qual:Str}{st:Stmt}{f:Addr}{fd:FuncData}{N ps:List Str}{k:Nat}{sp:Sp}(F:Fun K x qual st f fd)(S:D7 N ps (A9 st))(len:∀vs H Q E,sp vs H Q E->vs.length=ps.length)
  (hbody:∀(cdv:Value) (A:Around) (outer:List Env) (s:Shared) (H:Hp) (vs:List V) (Q:VK) (E:XK),Room k (A.deeper (envOfC qual (A9 st) s.heap.objs.size f cdv))->sp vs H Q E ->
   ∃t,PSs (bG6 CX0 P w K mg base N qual (A9 st) f cdv A outer s H E).nox (D0 st) t/\t {nx:=λ_ H'=>Q .non H',rt:=Q} (W5 N vs) H):G3 P w K mg base CX0 (k+1) f fd ps sp:=by
 obtain ⟨oc,od,kV,doc,pm,an,cdv,ct,osl,rfl,lk,hcd⟩:=F.ex;refine cG1 lk hcd S len λA outer s H vs Q E hr hsp=>?_
 obtain ⟨t,h,q⟩:=hbody cdv A outer s H vs Q E hr hsp;exact⟨t,h.nox,q⟩
theorem Fun.binds {x qual:Str}{st:Stmt}{f:Addr}{fd:FuncData}{ps:List Str}(F:Fun K x qual st f fd)
  (h:∀(kV doc pm:Value) (an:Option Addr) (cdv ct:Value) (us:List Value),us.length=ps.length->bindArgs (PySem.W.fnOf x qual (D6 st) (D0 st) (A9 st) .none kV doc pm an cdv ct) ⟨us,[]⟩=pure (ps.zip us)):Binds K fd ps []:=by
 obtain ⟨oc,od,kV,doc,pm,an,cdv,ct,osl,rfl,lk,hcd⟩:=F.ex;exact .all (h kV doc pm an cdv ct)
theorem K7 {x qual:Str}{st:Stmt}{f:Addr}{oc:Value}{od an:Option Addr}{osl:Array (Option Value)}{kV doc pm cdv ct:Value}(l:K.lookup f=some ⟨oc,od,.func (PySem.W.fnOf x qual (D6 st) (D0 st) (A9 st) .none kV doc pm an cdv ct),osl⟩)
  (c:PySem.W.codeIn K cdv qual=true) (k:PySem.W.keepIn K (.ref f)=true):Fun K x qual st f (PySem.W.fnOf x qual (D6 st) (D0 st) (A9 st) .none kV doc pm an cdv ct):=⟨⟨oc,od,kV,doc,pm,an,cdv,ct,osl,rfl,l,c⟩,k⟩
end
section
variable {X:Cx}
theorem pv (i:Nat){x:Str}{pos:Pos}(hN:X.N[i]? = some x:=by rfl)(hv:Vis X.env.scope x:=by first | exact Or.inl rfl | exact Or.inr (Or.inl rfl) | exact Or.inr (Or.inr rfl))(hd:(x==("__debug__" : Str))=false:=by decide)
  (hcd:(x==("__classdict__" : Str))=false:=by decide):PE X (.Name x pos) (D9 i):=cO9 hN hv hd hcd
end
def Same (H H':Hp):Prop:=∀b o,H b=some o->H' b=some o
section
variable {prog:Program}{w:World}{A:Around}{R:Result->Shared->Prop}{s:Shared}
theorem bE2 {elt target iter:Expr}{ifs:List Expr}{scope:Scope}{pos:Pos}{it acc:Value}{env:Env}(I:Nat->Shared->Prop)
  (turn:∀n s,I n s->wpAny (model prog w) A (pyNext it) (λr s₁=>match r with
   | none=>R (.ok .next) s₁
   | some v=>wpAny (model prog w) A (letOwnedTupleGo target it v) (λ_ s₁'=>wpAny (model prog w) A (assign target env v) (λ_ s₂ =>
     wpAny (model prog w) A (forIn ifs true λc r=>if r=true then do let ok <- isTrue c env (eval c env);pure (ForInStep.yield ok) else pure (ForInStep.yield r)) (λok s₃ =>
      if ok=true then wpAny (model prog w) A (eval elt env) (λx s₄ =>
       wpAny (model prog w) A (call (.builtin "list.append") [acc,x]) (λ_ s₅=>∃m,m<n/\I m s₅) (λ_ _=>False) s₄) (λ_ _=>False) s₃
      else ∃m,m<n/\I m s₃) (λ_ _=>False) s₂) (λ_ _=>False) s₁') (λ_ _=>False) s₁) (λ_ _=>False) s)
  (n:Nat) (h:I n s) :
  codeAny (model prog w) A (.compLoop (.ListComp elt [⟨target,iter,ifs,0⟩] scope pos) 0 it acc env) R s:=by
 refine codeAny_loop rfl I (λn s hI=>?_) n h
 show wpAny _ A ((compTurn (.ListComp elt [⟨target,iter,ifs,0⟩] scope pos) 0 it acc env).onRaise (λx=>do noteFrame x env;theTreesLotGoes x)) _ _ s
 refine wpAny_noted ?_;rw[compTurn_list];refine wpAny_bind (wpAny_standAt (wpAny_bind (wpAny_mono (turn n s hI) (λr s₁ h₁=>?_) λ_ _ h'=>h'.elim)))
 cases r with
 | none=>exact wpAny_pure h₁
 | some v=>
  refine wpAny_bind (wpAny_mono h₁ (λ_ s₁' h₁'=>?_) λ_ _ h'=>h'.elim)
  refine wpAny_bind (wpAny_mono h₁' (λ_ s₂ h₂=>wpAny_bind (wpAny_mono h₂ (λok s₃ h₃=>?_) λ_ _ h'=>h'.elim)) λ_ _ h'=>h'.elim)
  cases ok with
  | false=>exact wpAny_pure ⟨rfl,h₃⟩
  | true=>
   exact wpAny_bind (wpAny_bind (wpAny_mono h₃ (λx s₄ h₄=>wpAny_bind (wpAny_mono h₄ (λ_ s₅ h₅=>wpAny_pure (wpAny_pure ⟨rfl,h₅⟩)) λ_ _ h'=>h'.elim)) λ_ _ h'=>h'.elim))
end
section
variable {X:Cx}
def cxC (X:Cx)(N':List Str)(scope:Scope)(cl:List (Str×Addr))(C:Addr)(ex:List Addr)(s:Shared)(H:Hp):Cx:=
 {X with N:=N',s₀:=s,H₀:=H,env:=compEnvC scope cl C X.env,outer:=X.stack,ex:=ex,fn:=λ_=>false,xe:=λ_ _=>False}
structure PIfs (X:Cx)(ifs:List Expr)(t:TT):Prop where
 mk ::
 run :
  ∀(pins:List (Addr×Obj)) (s:Shared) (σ:St) (H:Hp) (Q:Bool->Hp->Prop),Inv X pins σ H s->t σ H Q ->
   wpAny (model X.prog X.w) X.A (forIn ifs true λc r=>if r=true then do let ok <- isTrue c X.env (eval c X.env);pure (ForInStep.yield ok) else pure (ForInStep.yield r)) (TP X pins σ Q) X.xe s
instance {X:Cx} {ifs:List Expr} {t:TT}:CoeFun (PIfs X ifs t) λ_=>
 (∀(pins:List (Addr×Obj)) (s:Shared) (σ:St) (H:Hp) (Q:Bool->Hp->Prop),Inv X pins σ H s->t σ H Q ->
  wpAny (model X.prog X.w) X.A (forIn ifs true λc r=>if r=true then do let ok <- isTrue c X.env (eval c X.env);pure (ForInStep.yield ok) else pure (ForInStep.yield r)) (TP X pins σ Q) X.xe s):=⟨PIfs.run⟩
def aV9:TT:=λ_ H Q=>Q true H
theorem V5:PIfs X [] aV9:=⟨λpins s σ H Q I h=>by
 show wpAny _ _ (pure true) _ _ _
 exact wpAny_pure ⟨H,I,h⟩⟩
theorem aJ4 {c:Expr}{t:TT}(hc:PT X c t):PIfs X [c] t:=⟨λpins s σ H Q I h=>by
 rw[List.forIn_cons,if_pos rfl];refine wpAny_bind (wpAny_bind (thn (hc pins s σ H Q I h) λb s1 q=>wpAny_pure ?_))
 dsimp only
 rw[List.forIn_nil];exact wpAny_pure q⟩
def stC (n:Nat)(is:List Nat)(σ:St):St:=List.replicate n none++is.map λi=>(σ[i]?).getD none
def bI1 (wi:TI)(n:Nat)(is:List Nat)(g:TG)(tt:TT)(te:TE):TE:=λσ H Q=>wi σ H λJ H1=>
 ∃W:Nat->Nat->List V->Hp->Prop,(∃m,W 0 m [] H1)/\∀i m ys H,W i m ys H->ys.length<sizeLine /\
  ((J.stop i H/\∀D,H D=none->Q (.ref D) (upd H D (.lst ys))) \/
   (J.go i H/\∀x H',J.yld i H x H'->g x (stC n is σ) H' λσ2 H2=>tt σ2 H2 λb H3=>
    if b=true then te σ2 H3 (λy H4=>∃m',m'<m/\W (i+1) m' (ys++[y]) H4) else ∃m',m'<m/\W (i+1) m' ys H3))
structure CScope (X:Cx)(scope:Scope)(cl:List (Str×Addr))(T:List Str)(is:List Nat)(N':List Str):Prop where
 clos:closureFor scope X.env=pure cl
 cell:∀y∈scope.names,y.2≠.cell
 kind:scope.kind=.function
 names:∀y∈scope.names,y.2=.local->scope.names.lookup y.1=some .local
 cap:∀x c,cl.lookup x=some c->X.env.cells.lookup x=some c
 has:∀x,((relabel scope X.env).names.lookup x=some .cell\/(relabel scope X.env).names.lookup x=some .free)->∃c,cl.lookup x=some c
 N:N'=T++is.map λ(i:Nat)=>((X.N[i]?).getD Str.empty:Str)
 lt:∀i∈is,i<X.N.length
 capt:∀i∈is,∀x,X.N[i]? = some x->((relabel scope X.env).names.lookup x=some .cell\/(relabel scope X.env).names.lookup x=some .free)/\(X.env.kindOf x=some .cell\/X.env.kindOf x=some .free)
theorem cM5 {pins:List (Addr×Obj)}{σ:St}{H:Hp}{s:Shared}{scope:Scope}{cl:List (Str×Addr)}{T N':List Str}{is:List Nat}{C:Addr}{fp:List Addr}(S:CScope X scope cl T is N')(I:Inv X pins σ H s)
  (hf:∀b∈fp,aM4 X pins H b) (hfl:∀b∈fp,b<s.heap.objs.size) (hC:s.heap.objs.size<=C):(cxC X N' scope cl C fp s H).Ok where
 mod:=I.ok.mod
 kind:=S.kind
 glob:=I.ok.glob
 blt:=I.ok.blt
 above:=hC
 inj:=λx y c h1 h2=>I.ok.inj x y c (S.cap x c h1) (S.cap y c h2)
 has:=S.has
 cab:=λx c h=>by cases h
 hd:=I.ok.hd
 frames:=I.ok.frames
 stk:=.inl rfl
 exf:=λb hb=>⟨Ab9 (Ab8 (hfl b hb) hC),λx c e=>(hf b hb).2.2.2.2.1 x c (S.cap x c e)⟩
 bs:=λb o e=>I.bs b o e
 bsz:=Nat.le_trans I.ok.bsz I.sz
 noex:=λb o e hb=>by
  rcases (hf b hb).2.2.2.1 with z | z
  ·exact I.ok.noex b o e z
  ·exact absurd (Ab8 (Ab3 e) (Nat.le_trans I.ok.bsz z)) (Ad9 _)
 exfs:=λb hb z=>(Aa1.mp (I.stkSub b z)).elim (hf b hb).2.1 (hf b hb).2.2.1
 funs:=I.stack
 frf:=I.stkFree
 tab:=I.tab
def aK1 (n:Nat)(g:TG):Prop:=∀v (σ:St) H Q,n<=σ.length->g v σ H Q->g v σ H λσ' H'=>Q σ' H'/\σ'.length=σ.length/\∀i,n<=i->σ'[i]? = σ[i]?
def aX8 (n:Nat)(g:TGs):Prop:=∀vs (σ:St) H Q,n<=σ.length->g vs σ H Q->g vs σ H λσ' H'=>Q σ' H'/\σ'.length=σ.length/\∀i,n<=i->σ'[i]? = σ[i]?
theorem S0 {n i:Nat}(h:i<n):aK1 n (N2 i):=λv σ H Q hl q=>
 ⟨q,List.length_set,λj hj=>Ad0 (by omega)⟩
theorem cK3 {n:Nat}:aX8 n bE9:=λvs σ H Q hl q=>⟨q.1,q.2,rfl,λ_ _=>rfl⟩
theorem bK4 {n:Nat}{t:TG}{u:TGs}(mono:∀v σ H Q Q',(∀σ' H',Q σ' H'->Q' σ' H')->t v σ H Q->t v σ H Q')(monos:∀v σ H Q Q',(∀σ' H',Q σ' H'->Q' σ' H')->u v σ H Q->u v σ H Q')(h1:aK1 n t)(h2:aX8 n u):aX8 n (aE2 t u):=by
 rintro vs σ H Q hl ⟨v,r,e,q⟩;refine⟨v,r,e,mono _ _ _ _ _ ?_ (h1 v σ H _ hl q)⟩;rintro σ' H' ⟨q',l',k'⟩;refine monos _ _ _ _ _ ?_ (h2 r σ' H' _ (by omega) q')
 rintro σ'' H'' ⟨q'',l'',k''⟩;exact⟨q'',by omega,λi hi=>(k'' i hi).trans (k' i hi)⟩
theorem cN3 {K:PySem.W.Frag}{n k:Nat}{t:TGs}(h:aX8 n t):aK1 n (bU6 K k t):=by
 rintro v σ H Q hl ⟨a,xs,e,hq,hn,q⟩;exact⟨a,xs,e,hq,hn,h xs σ H Q hl q⟩
abbrev y4 (its:List Value)(n:Nat):Obj:={cls:=.type "list",data:=.seq its.toArray n}
theorem bZ9 {pins:List (Addr×Obj)}{σ:St}{H:Hp}{s:Shared}{scope:Scope}{cl:List (Str×Addr)}{T N':List Str}{is:List Nat}{C D:Addr}{fp:List Addr}{h₁:Heap}{tk:Nat}{m:Str->Option Value}{its:List Value}{e:Nat}(S:CScope X scope cl T is N')(I:Inv X pins σ H s)
  (hf:∀b∈fp,aM4 X pins H b) (hfl:∀b∈fp,b<s.heap.objs.size) (hD:s.heap.objs.size=D) (hC:D<C) (hns:h₁.Ns C m) (old:∀b o,s.heap.get? b=some o->h₁.get? b=some o) (hacc:h₁.get? D=some (y4 its e)) :
  Inv (cxC X N' scope cl C fp s H) (pins++[(D,y4 its e)]) (stC T.length is σ) H {s with heap:=h₁,toks:=tk}:=by
 have hCs:s.heap.objs.size<=C:=by rw[hD];exact Nat.le_of_lt hC
 have ok:=cM5 (C:=C) S I hf hfl hCs
 have lt:∀p∈X.pn++pins,p.1<D:=λp hp=>by rw[<- hD];exact Ab3 (I.pin p hp).1
 have stk:∀b∈frs X.stack,b<D:=λb hb=>by
  obtain ⟨_,o,ho,_⟩:=I.stack.mem hb;rw[<- hD];exact Ab3 ho
 refine⟨ok,rfl,I.bare,Un.kept old,⟨m,hns,λi x v e1 e2 e3=>?_⟩,λx c h=>?_,?_,λx c h=>I.freeC x c (S.cap x c h),λp hp=>?_,I.hok.kept old,?_⟩
 ·have e1:N'[i]? = some x:=e1
  unfold stC at e2;by_cases hi:i<T.length
  ·rw[List.getElem?_append_left (by simpa using hi),List.getElem?_replicate,if_pos hi]at e2
   cases e2
  ·rw[List.getElem?_append_right (by simpa using hi),List.length_replicate,Aa9]at e2
   rw[S.N,List.getElem?_append_right (by omega),Aa9]at e1
   cases ek:is[i-T.length]? with
   | none=>rw[ek]at e2;cases e2
   | some k=>
    rw[ek]at e1 e2;have hk:k∈is:=List.mem_of_getElem? ek;have hlt:=S.lt k hk;have eN:X.N[k]? = some x:=by
     simp only[Option.map_some,Option.some.injEq]at e1;rw[Aa2 hlt]at e1 ⊢;simpa using e1
    have es:σ[k]? = some (some v):=by
     simp only[Option.map_some,Option.some.injEq]at e2;cases q:σ[k]? with
     | none=>rw[q]at e2;cases e2
     | some y=>rw[q]at e2;exact congrArg some e2
    obtain ⟨c1,c2⟩:=S.capt k hk x eN;obtain ⟨m',hn',hl'⟩:=I.loc;obtain ⟨u,r,l⟩:=hl' k x v eN es (.inr c2);refine⟨u,r,.inr ⟨c1,?_⟩⟩;rcases l with ⟨k1,_⟩ | ⟨_,c,hc,hcell⟩
    ·rcases c2 with c2 | c2 <;> rw[k1]at c2 <;> cases c2
    ·obtain ⟨c',hc'⟩:=S.has x c1
     have:c'=c:=Ab4 ((S.cap x c' hc').symm.trans hc)
     subst this;exact⟨c',hc',hcell.keeps old⟩
 ·obtain ⟨v,q⟩:=I.cell x c (S.cap x c h);exact⟨v,q.keeps old⟩
 ·exact I.hok.fresh hCs
 ·have hp:p∈X.pn++(pins++[(D,y4 its e)]):=hp
  rw[<- Ad7]at hp;rcases Aa0.mp hp with hp | hp
  ·obtain ⟨q1,q2,q3,q4,q5⟩:=I.pin p hp
   have:=lt p hp
   exact⟨old _ _ q1,q2,Ab9 (Nat.lt_trans this hC),λz=>(Aa1.mp (I.stkSub p.1 z)).elim q3 q4,q5⟩
  ·have e:p=(D,y4 its e):=by simpa using hp
   subst e;exact⟨hacc,I.hok.fresh (by rw[hD];exact Aa7 _),Ab9 hC,λz=>Ad9 _ (stk D z),λv z=>by cases z⟩
 ·show(stC T.length is σ).length=N'.length
  rw[S.N];unfold stC
  simp
def cD6 (X:Cx)(pins:List (Addr×Obj))(σ:St)(D C:Addr)(H4:Hp)(s4:Shared):Prop:=
 (∃m,s4.heap.Ns C m)/\(∀h',Heap.SameBut C s4.heap h'->Inv X pins σ H4 {s4 with heap:=h'})/\H4 C=none/\C≠X.env.locals/\X.s₀.heap.objs.size<=C/\(∀x c,X.env.cells.lookup x=some c->c≠C)/\∀p∈X.pn++pins,p.1≠C
theorem aP6 {elt tg iter:Expr}{ifs:List Expr}{scope:Scope}{pos pos2:Pos}{cl:List (Str×Addr)}{T N':List Str}{is:List Nat}{wi:TI}{g:TG}{tt:TT}{te:TE}(hc:X.calm=true)(S:CScope X scope cl T is N')(hi:PI X tg iter wi)(hg:aK1 T.length g)
  (hb:∀C ex s H,PG (cxC X N' scope cl C ex s H) tg g/\PIfs (cxC X N' scope cl C ex s H) ifs tt/\PE (cxC X N' scope cl C ex s H) elt te)
  (hs:∀x,foldedSetIterable iter X.env x=pure x) {use:Option (Value->Sem Unit)} {Qc:Value->Shared->Prop} {pins:List (Addr×Obj)} {s:Shared} {σ:St} {H:Hp} {Q:VK} (I:Inv X pins σ H s) (h:bI1 wi T.length is g tt te σ H Q)
  (fin:∀(D C:Addr) (H4:Hp) (s4:Shared),cD6 X pins σ D C H4 s4->Q (.ref D) H4->compPost (model X.prog X.w) X.A X.xe use Qc (.ref D) C (.ok .next) s4) :
  wpAny (model X.prog X.w) X.A (comprehension (.ListComp elt [⟨tg,iter,ifs,0⟩] scope pos) scope X.env pos2 (newList []) false (eval iter X.env) use) Qc X.xe s:=by
 refine wpAny_comprehension_free (use:=use) rfl hs S.clos S.kind S.names (thn (hi pins s σ H _ I h) λv s1 h1=>thn h1 λitv s2 h2=>?_)
 obtain ⟨it,fp,tn,J,H2,e,I2,Tn,st2,f2,W,⟨m0,w0⟩,turn⟩:=h2;subst e;refine wpAny_newObj_type (wpAny_newFunctionEnv S.cell (by intro y hy;simp at hy) (λh₁ hns₁ hsb₁=>?_) S.kind)
 dsimp only at hns₁ hsb₁ ⊢
 generalize hH2:s2.heap.push {cls:=.type "list",dict:=none,data:=.seq ([]:List Value).toArray}=G2 at hns₁ hsb₁ ⊢;have eC:G2.objs.size=s2.heap.objs.size+1:=by rw[<- hH2,Heap.size_push]
 generalize hC:G2.objs.size=C at *;generalize hD:s2.heap.objs.size=D at *;have hDC:D<C:=by rw[eC];exact Nat.lt_succ_self D
 have bC:∀{b:Addr},b<D->b≠C:=λhb=>Ab9 (Nat.lt_trans hb hDC)
 have below:∀b o,s2.heap.get? b=some o->b<D:=λb o e=>by rw[<- hD];exact Ab3 e
 have old:∀b o,s2.heap.get? b=some o->h₁.get? b=some o:=λb o e=>hsb₁.extBut b o (bC (below b o e)) (Aa6 _ (hH2▸Aa6 _ e))
 have hacc:h₁.get? D=some (y4 [] 0):=hsb₁.extBut _ _ (Ab9 hDC) (Aa6 _ (hH2▸(by rw[<- hD];exact Ac3 _ rfl)))
 have hfl:∀b∈fp,b<D:=λb hb=>by
  obtain ⟨o,e,_⟩:=Tn.obj _ _ st2 b hb;exact below b o e
 have lt:∀p∈X.pn++pins,p.1<D:=λp hp=>below _ _ (I2.pin p hp).1
 have stk:∀b∈frs X.stack,b<D:=λb hb=>by
  obtain ⟨_,o,ho,_⟩:=I2.stack.mem hb;exact below b o ho
 have cel:∀x c,cl.lookup x=some c->c<D:=λx c hx=>by
  obtain ⟨v,q⟩:=I2.cell x c (S.cap x c hx);rw[<- hD];exact q.lt
 have H2D:H2 D=none:=I2.hok.fresh (by rw[hD];exact Aa7 _)
 obtain ⟨pgx,pix,pex⟩:=hb C fp s2 H2;have stat:∀{e:Nat} {its:List Value} {H':Hp},(∀b∈fp,H' b=none)->∀b∈fp,aM4 (cxC X N' scope cl C fp s2 H2) (pins++[(D,y4 its e)]) H' b:=λ{e its H'} hn b hb=>by
  obtain ⟨f0,f1,f3,f4,f5,f6⟩:=f2 b hb
  have:=hfl b hb
  refine⟨hn b hb,bC (hfl b hb),λz=>(Aa1.mp (I2.stkSub b z)).elim f1 f3,.inl hb,λx c z=>f5 x c (S.cap x c z),λp hp=>?_⟩
  have hp:p∈X.pn++(pins++[(D,y4 its e)]):=hp
  rw[<- Ad7]at hp;rcases Aa0.mp hp with hp | hp
  ·exact f6 p hp
  ·have e:p=(D,y4 its e):=by simpa using hp
   subst e;exact(Ab9 (hfl b hb)).symm
 have loop:codeAny (model X.prog X.w) X.A (.compLoop (.ListComp elt [⟨tg,iter,ifs,0⟩] scope pos) 0 (.ref it) (.ref D) (compEnvC scope cl C X.env)) (compPost (model X.prog X.w) X.A X.xe use Qc (.ref D) C) {s2 with heap:=h₁,toks:=s2.toks+([]:List (Str×Value)).length}:=by
  refine bE2 (λn s'=>∃i ys its e H3,Inv (cxC X N' scope cl C fp s2 H2) (pins++[(D,y4 its e)]) (stC T.length is σ) H3 s'/\tn i s'.heap/\(∀b∈fp,H3 b=none)/\Vals ys its/\W i n ys H3) ?_ m0
   ⟨0,[],[],0,H2,bZ9 S I2 f2 (by rw[hD];exact hfl) hD hDC hns₁ old hacc,Tn.keep _ _ _ st2 λb _ o q=>old b o q,λb hb=>(f2 b hb).1,.nil,w0⟩
  rintro n s3 ⟨i,ys,its,e,H3,I3,st3,fr3,rv,w3⟩;obtain ⟨hsz,hh⟩:=turn i n ys H3 w3;rcases hh with ⟨stop,qn⟩ | ⟨go,step⟩
  ·refine thn (Tn.done (cxC X N' scope cl C fp s2 H2) rfl rfl rfl hc i _ s3 _ H3 _ I3 (stat fr3) st3 stop) λr s4 ⟨hr,I4⟩=>?_
   subst hr;obtain ⟨m4,hn4,_⟩:=I4.loc;obtain ⟨pd,H3D,_⟩:=I4.pin (D,y4 its e) (by simp)
   have H3C:H3 C=none:=I4.free
   refine fin D C (upd H3 D (.lst ys)) s4 ⟨⟨m4,hn4⟩,λh' sb=>?_,by rw[B0 (Nat.ne_of_gt hDC)];exact H3C,λz=>Ad9 _ (Nat.lt_trans hDC (by rw[z];have:=I2.lt;rw[hD]at this;exact this)),Nat.le_trans I2.sz (by rw[hD];exact Nat.le_of_lt hDC),λx c e=>by
    obtain ⟨v,q⟩:=I2.cell x c e;exact bC (by rw[<- hD];exact q.lt),λp hp=>bC (lt p hp)⟩ (qn D H3D)
   have kC:∀b o,b≠C->s4.heap.get? b=some o->h'.get? b=some o:=λb o hb q=>(sb.2 b hb).trans q
   have u:=I4.base
   have u:Un (frs X.stack) fp H2 H3 s2.heap s4.heap:=u
   have u2:Un (frs X.stack) fp H2 (upd H3 D (.lst ys)) s2.heap h':=by
    refine⟨λb o q n hb hx=>kC b o (bC (below b o q)) (u.keep b o q n hb hx),λb o q n hb hx=>?_,λb o q n hx=>?_,λb o q hx=>?_,λb xs q=>?_,λb o xs q=>?_,λb ps q=>?_⟩
    ·obtain ⟨sl,q1⟩:=u.slot b o q n hb hx;exact⟨sl,kC b _ (bC (below b o q)) q1⟩
    ·rw[B0 (Ab9 (below b o q))];exact u.free b o q n hx
    ·obtain ⟨o',q1⟩:=u.there b o q hx;exact⟨o',kC b _ (bC (below b o q)) q1⟩
    ·rw[B0 (C8 q H2D)];exact u.tups b xs q
    ·rw[B0 (C8 q H2D)];exact u.frzs b o xs q
    ·obtain ⟨more,q1⟩:=u.tbls b ps q;exact⟨more,by rw[B0 (C8 q H2D)];exact q1⟩
   have hok:HOk X.prog X.w (upd H3 D (.lst ys)) h':=λb o q=>by
    by_cases hb:b=D
    ·subst hb;rw[C0]at q;cases q;exact⟨Nat.le_of_lt hsz,its,e,rv,kC _ _ (Ab9 hDC) pd⟩
    ·rw[B0 hb]at q;refine(I4.hok b o q).stay (λc v hc q'=>kC c v ?_ q') (λc q'=>by rw[B0 (C8 q' H3D)];exact q') λc xs _ q'=>by rw[B0 (C8 q' H3D)];exact q'
     rcases hc with z | z
     ·rw[z];exact C8 q H3C
     ·exact C8 z H3C
   have os4:s4.os=s2.os:=I4.os
   exact I2.call' (s':={s4 with heap:=h'}) os4 u2 hok I4.bare λb hb=>⟨(f2 b hb).2.2.2.1,(f2 b hb).2.1,(f2 b hb).2.2.2.2.1,(f2 b hb).2.2.2.2.2⟩
  ·refine thn (Tn.item (cxC X N' scope cl C fp s2 H2) rfl rfl rfl hc i _ s3 _ H3 _ I3 (stat fr3) st3 go) λr s4 ⟨u,hr,h4⟩=>?_
   subst hr;refine thn h4 λ_ s5 ⟨x,H5,I5,r5,y5,st5,fr5⟩=>?_
   have I5':=I5.pinned (stat fr5) (Tn.obj _ _ st5)
   have hln:T.length<=(stC T.length is σ).length:=by unfold stC;simp
   refine thn (pgx _ s5 _ H5 x u _ I5' r5 (hg x _ H5 _ hln (step x H5 y5))) λ_ s6 ⟨σ6,H6,I6,q6,l6,k6⟩=>?_
   refine thn (pix _ s6 σ6 H6 _ I6 q6) λb s7 ⟨H7,I7,q7⟩=>?_
   have back:∀{H8:Hp} {s8:Shared} {its':List Value} {e':Nat},Inv (cxC X N' scope cl C fp s2 H2) (pins++[(D,y4 its' e')]++m3 fp s5.heap) σ6 H8 s8->Inv (cxC X N' scope cl C fp s2 H2) (pins++[(D,y4 its' e')]) (stC T.length is σ) H8 s8/\tn (i+1) s8.heap/\∀b∈fp,H8 b=none:=λ{H8 s8 its' e'} I8=>by
    refine⟨I8.unpinned.weak l6.symm λj v q=>?_,Tn.keep _ _ _ st5 λb hb o q=>(I8.pin (b,o) (Ac1 _ (Ac1 _ (d7 hb q)))).1,λb hb=>?_⟩
    ·by_cases hj:T.length<=j
     ·rw[k6 j hj];exact q
     ·unfold stC at q;rw[List.getElem?_append_left (by simpa using hj),List.getElem?_replicate,if_pos (by omega)]at q
      cases q
    ·obtain ⟨o,q,d⟩:=Tn.obj _ _ st5 b hb;exact(I8.pin (b,o) (Ac1 _ (Ac1 _ (d7 hb q)))).2.1
   cases b with
   | false=>
    rw[if_neg Bool.false_ne_true]at q7 ⊢;obtain ⟨m',hm,w7⟩:=q7;obtain ⟨J1,J2,J3⟩:=back I7;exact⟨m',hm,i+1,ys,its,e,H7,J1,J2,J3,rv,w7⟩
   | true=>
    rw[if_pos rfl]at q7 ⊢;refine thn (pex _ s7 σ6 H7 _ I7 q7) λy s8 ⟨yv,H8,I8,r8,m',hm,w8⟩=>?_
    obtain ⟨pd,H8D,_⟩:=I8.pin (D,y4 its e) (by simp)
    have pl:s8.heap.PlainList D its.toArray:=⟨e,pd⟩
    refine wpAny_list_append_plain pl (λh9 pl9 sb9=>?_) (by have:=rv.length;simp;omega)
    obtain ⟨e9,hl9⟩:=pl9;have ea:its.toArray.push y=(its++[y]).toArray:=by simp
    rw[ea]at hl9;have I8':Inv (cxC X N' scope cl C fp s2 H2) (pins++m3 fp s5.heap) σ6 H8 s8:=I8.pins_of λp hp=>I8.pin p (Ac1 _ ((Aa0.mp hp).elim (λz=>List.mem_append_left _ (List.mem_append_left _ z)) λz=>Ac1 _ z))
    have I9:Inv (cxC X N' scope cl C fp s2 H2) (pins++m3 fp s5.heap) σ6 H8 {s8 with heap:=h9}:=by
     refine I8'.turned (t':=s8.toks) (it:=D) (λb o hb q=>(sb9.2 b hb).trans q) H8D (Ab9 hDC) (.inr (by show s2.heap.objs.size<=D;rw[hD];exact Aa7 _)) (λx c z=>Ab9 (cel x c z)) λp hp=>?_
     have hp:p∈X.pn++(pins++m3 fp s5.heap):=hp
     rw[<- Ad7]at hp;rcases Aa0.mp hp with z | z
     ·exact Ab9 (lt p z)
     ·exact Ab9 (hfl _ (aR3 z).1)
    have I9':Inv (cxC X N' scope cl C fp s2 H2) (pins++[(D,y4 (its++[y]) e9)]++m3 fp s5.heap) σ6 H8 {s8 with heap:=h9}:=I9.pins_of λp hp=>by
     rcases Aa0.mp hp with z | z
     ·rcases Aa0.mp z with z | z
      ·exact I9.pin p (Ac1 _ (List.mem_append_left _ z))
      ·have ep:p=(D,y4 (its++[y]) e9):=by simpa using z
       subst ep;exact⟨hl9,H8D,Ab9 hDC,λz=>Ad9 _ (stk D z),λv z=>by cases z⟩
     ·exact I9.pin p (Ac1 _ (Ac1 _ z))
    obtain ⟨J1,J2,J3⟩:=back I9';exact⟨m',hm,i+1,ys++[yv],its++[y],e9,H8,J1,J2,J3,rv.append (.cons r8 .nil),w8⟩
 refine codeAny_compStart_list loop ?_;exact Tn.self _ 0 _ _ _ (Tn.keep _ _ _ st2 λb _ o q=>old b o q) loop
theorem j9 {elt tg iter:Expr}{ifs:List Expr}{scope:Scope}{pos:Pos}{cl:List (Str×Addr)}{T N':List Str}{is:List Nat}{wi:TI}{g:TG}{tt:TT}{te:TE}(hc:X.calm=true)(S:CScope X scope cl T is N')(hi:PI X tg iter wi)(hg:aK1 T.length g)
  (hb:∀C ex s H,PG (cxC X N' scope cl C ex s H) tg g/\PIfs (cxC X N' scope cl C ex s H) ifs tt/\PE (cxC X N' scope cl C ex s H) elt te)
  (hs:∀x,foldedSetIterable iter X.env x=pure x:=by intro _;rfl):PE X (.ListComp elt [⟨tg,iter,ifs,0⟩] scope pos) (bI1 wi T.length is g tt te):=by
 refine⟨?_⟩;intro pins s σ H Q I h;rw[eval_ListComp];refine aP6 hc S hi hg hb hs I h λD C H4 s4 ⟨⟨m4,hn4⟩,J,_⟩ q=>?_
 exact⟨m4,hn4,λh' sb=>⟨.ref D,H4,J h' sb,rfl,q⟩⟩
theorem aA7 {i:Nat}{x:Str}{pos' spos:Pos}{elt tg iter:Expr}{ifs:List Expr}{scope:Scope}{pos:Pos}{cl:List (Str×Addr)}{T N':List Str}{is:List Nat}{wi:TI}{g:TG}{tt:TT}{te:TE}(hN:X.N.Nodup)(hx:X.N[i]? = some x)(hl:X.env.scope.names.lookup x=some .local)
  (hc:X.calm=true) (S:CScope X scope cl T is N') (hi:PI X tg iter wi) (hg:aK1 T.length g)
  (hb:∀C ex s H,PG (cxC X N' scope cl C ex s H) tg g/\PIfs (cxC X N' scope cl C ex s H) ifs tt/\PE (cxC X N' scope cl C ex s H) elt te)
  (hsw:swapsWith (.ListComp elt [⟨tg,iter,ifs,0⟩] scope pos) (some (.Name x pos')) spos.line X.env=pure true:=by rfl)
  (hs:∀x,foldedSetIterable iter X.env x=pure x:=by intro _;rfl):PS X (.Assign [.Name x pos'] (.ListComp elt [⟨tg,iter,ifs,0⟩] scope pos) spos) (aO4 (bI1 wi T.length is g tt te) (N2 i)):=by
 refine⟨?_⟩;intro pins s σ H D I h;rw[exec_Assign_Name_used _ _ _ _ hsw];refine wpAny_bind (wpAny_standAt (wpAny_bind ?_));show wpAny _ X.A (do let _ <- comprehension (.ListComp elt [⟨tg,iter,ifs,0⟩] scope pos) scope X.env _ (newList []) false (eval iter X.env) (some (assign (.Name x pos') X.env))) _ _ s;refine wpAny_bind (wpAny_mono (aP6 (use:=some (assign (.Name x pos') X.env)) (Qc:=λ_ s'=>SP X pins D .next s') hc S hi hg hb hs I h λDa C H4 s4 ⟨⟨m4,hn4⟩,J,k1,k2,k3,k4,k5⟩ q=>?_) (λ_ s' hq=>wpAny_pure (wpAny_pure hq)) λ_ _ e=>e)
 show wpAny _ _ (assign (.Name x pos') X.env (.ref Da)) _ _ _
 have I4:Inv X pins σ H4 s4:=J s4.heap (.refl _ _)
 refine wpAny_assign_Name (aP9 I4 hN hx (.inl hl) (v:=.ref Da) rfl (λs5 I5 ⟨a,sb,ha⟩=>?_) (.inr hl))
 have aC:a≠C:=by
  rcases ha with rfl | ha
  ·exact k2.symm
  ·exact k4 x a ha
 refine⟨m4,hn4.sameBut sb aC.symm,λh' sb'=>⟨_,H4,?_,q⟩⟩
 exact I5.turned (t':=s5.toks) (λb o hb e=>(sb'.2 b hb).trans e) k1 k2 (.inr k3) k4 k5
end
end L2
namespace LV
open PySem L2
def _root_.L2.excO (x C:Addr):HO:=.ext λh=>∃o vs,h.get? x=some o/\o.cls=.ref C/\o.data=.fields vs
mutual
inductive Rep (K:PySem.W.Frag)(H:Hp):V->PyData->Prop
 | non:Rep K H .non .none
 | bl (b:Bool):Rep K H (.bl b) (.bool b)
 | int (i:Int):Rep K H (.int i) (.int i)
 | str (x:Str):Rep K H (.str x) (.str x)
 | tup {a:Addr} {xs:List V} {ds:List PyData}:SqT K H a xs->Reps K H xs ds->Rep K H (.ref a) (.tuple ds)
 | lst {a:Addr} {xs:List V} {ds:List PyData}:SqL K H a xs->Reps K H xs ds->Rep K H (.ref a) (.list ds)
 | exc {a C:Addr}:H a=some (L2.excO a C)->Rep K H (.ref a) (.dict [(.int (C:Nat),.none)])
inductive Reps (K:PySem.W.Frag)(H:Hp):List V->List PyData->Prop
 | nil:Reps K H [] []
 | cons {v:V} {d:PyData} {vs:List V} {ds:List PyData}:Rep K H v d->Reps K H vs ds->Reps K H (v::vs) (d::ds)
end
section
variable {K:PySem.W.Frag}{H H':Hp}
theorem _root_.L2.Same.rf (H:Hp):Same H H:=λ_ _ e=>e
theorem _root_.L2.Same.tr {H1 H2 H3:Hp}(a:Same H1 H2)(b:Same H2 H3):Same H1 H3:=λx o e=>b x o (a x o e)
theorem W7 (h:Same H H'){a:Addr}{u:HO}(r:Rd H a u):Rd H' a u:=by
 rcases r with e | ⟨o,e⟩
 ·exact .inl (h _ _ e)
 ·exact .inr ⟨o,h _ _ e⟩
theorem G8 (h:Same H H'){a:Addr}{xs:List V}(r:SqT K H a xs):SqT K H' a xs:=r.imp (W7 h) id
theorem S4 (h:Same H H'){a:Addr}{xs:List V}(r:SqL K H a xs):SqL K H' a xs:=r.imp (W7 h) id
mutual
theorem bC0 (h:Same H H'):∀(d:PyData) {v:V},Rep K H v d->Rep K H' v d
 | .none,_,r=>by cases r;exact .non
 | .bool _,_,r=>by cases r;exact .bl _
 | .int _,_,r=>by cases r;exact .int _
 | .str _,_,r=>by cases r;exact .str _
 | .tuple ds,_,r=>by cases r with | tup s rs=>exact .tup (G8 h s) (u7 h ds rs)
 | .list ds,_,r=>by cases r with | lst s rs=>exact .lst (S4 h s) (u7 h ds rs)
 | .dict _,_,r=>by cases r with | exc e=>exact .exc (h _ _ e)
theorem u7 (h:Same H H'):∀(ds:List PyData) {vs:List V},Reps K H vs ds->Reps K H' vs ds
 | [],_,r=>by cases r;exact .nil
 | d::ds,_,r=>by cases r with | cons a b=>exact .cons (bC0 h d a) (u7 h ds b)
end
theorem Rep.mono {v:V}{d:PyData}(r:Rep K H v d)(h:Same H H'):Rep K H' v d:=bC0 h d r
theorem Reps.mono {vs:List V}{ds:List PyData}(r:Reps K H vs ds)(h:Same H H'):Reps K H' vs ds:=u7 h ds r
mutual
def imm:PyData->Bool
 | .none | .bool _ | .int _ | .str _=>true
 | .tuple ds=>J8 ds
 | .list _ | .dict _=>false
def J8:List PyData->Bool
 | []=>true
 | d::ds=>imm d&&J8 ds
end
mutual
theorem bL0 (h:∀a xs,Rd H a (.tup xs)->Rd H' a (.tup xs)):∀(d:PyData) {v:V},imm d=true->Rep K H v d->Rep K H' v d
 | .none,_,_,r=>by cases r;exact .non
 | .bool _,_,_,r=>by cases r;exact .bl _
 | .int _,_,_,r=>by cases r;exact .int _
 | .str _,_,_,r=>by cases r;exact .str _
 | .tuple ds,_,i,r=>by
  cases r with
  | tup s rs=>exact .tup (s.imp (h _ _) id) (aK3 h ds (by simpa[imm]using i) rs)
 | .list ds,_,i,r=>by simp[imm]at i
 | .dict _,_,i,r=>by simp[imm]at i
theorem aK3 (h:∀a xs,Rd H a (.tup xs)->Rd H' a (.tup xs)):∀(ds:List PyData) {vs:List V},J8 ds=true->Reps K H vs ds->Reps K H' vs ds
 | [],_,_,r=>by cases r;exact .nil
 | d::ds,_,i,r=>by
  have i':imm d=true/\J8 ds=true:=by simpa[J8]using i
  cases r with | cons a b=>exact .cons (bL0 h d i'.1 a) (aK3 h ds i'.2 b)
end
theorem Reps.length:∀{vs:List V} {ds:List PyData},Reps K H vs ds->vs.length=ds.length
 | _,[],r=>by cases r;rfl
 | _,d::ds,r=>by cases r with | cons a b=>simp[Reps.length b]
theorem Reps.get:∀{vs:List V} {ds:List PyData} {i:Nat} {v:V},Reps K H vs ds->vs[i]? = some v->∃d,ds[i]? = some d/\Rep K H v d
 | _,[],_,_,r,e=>by cases r;simp at e
 | _,d::ds,0,v,r,e=>by
  cases r with | cons a b=>simp at e;subst e;exact⟨d,rfl,a⟩
 | _,d::ds,i+1,v,r,e=>by
  cases r with
  | cons a b=>
   obtain ⟨d',h1,h2⟩:=Reps.get (i:=i) (v:=v) b (by simpa using e)
   exact⟨d',by simpa using h1,h2⟩
theorem Reps.get':∀{vs:List V} {ds:List PyData} {i:Nat} {d:PyData},Reps K H vs ds->ds[i]? = some d->∃v,vs[i]? = some v/\Rep K H v d
 | _,[],_,_,r,e=>by simp at e
 | _,d::ds,0,v,r,e=>by
  cases r with | cons a b=>simp at e;subst e;exact⟨_,rfl,a⟩
 | _,d::ds,i+1,v,r,e=>by
  cases r with
  | cons a b=>
   obtain ⟨d',h1,h2⟩:=Reps.get' (i:=i) b (by simpa using e)
   exact⟨d',by simpa using h1,h2⟩
theorem Reps.append:∀{vs us:List V} {ds es:List PyData},Reps K H vs ds->Reps K H us es->Reps K H (vs++us) (ds++es)
 | _,_,[],_,r,s=>by cases r;exact s
 | _,_,d::ds,_,r,s=>by cases r with | cons a b=>exact .cons a (Reps.append b s)
theorem Reps.drop:∀{vs:List V} {ds:List PyData} (n:Nat),Reps K H vs ds->Reps K H (vs.drop n) (ds.drop n)
 | _,_,0,r=>r
 | _,[],n+1,r=>by cases r;exact .nil
 | _,d::ds,n+1,r=>by cases r with | cons a b=>exact Reps.drop n b
theorem Reps.take:∀{vs:List V} {ds:List PyData} (n:Nat),Reps K H vs ds->Reps K H (vs.take n) (ds.take n)
 | _,_,0,r=>.nil
 | _,[],n+1,r=>by cases r;exact .nil
 | _,d::ds,n+1,r=>by cases r with | cons a b=>exact .cons a (Reps.take n b)
theorem Reps.set:∀{vs:List V} {ds:List PyData} (n:Nat) {v:V} {d:PyData},Reps K H vs ds->Rep K H v d->Reps K H (vs.set n v) (ds.set n d)
 | _,[],n,_,_,r,_=>by cases r;exact .nil
 | _,e::ds,0,_,_,r,s=>by cases r with | cons a b=>exact .cons s b
 | _,e::ds,n+1,_,_,r,s=>by cases r with | cons a b=>exact .cons a (Reps.set n b s)
theorem Reps.eraseIdx:∀{vs:List V} {ds:List PyData} (n:Nat),Reps K H vs ds->Reps K H (vs.eraseIdx n) (ds.eraseIdx n)
 | _,[],n,r=>by cases r;exact .nil
 | _,e::ds,0,r=>by cases r with | cons a b=>exact b
 | _,e::ds,n+1,r=>by cases r with | cons a b=>exact .cons a (Reps.eraseIdx n b)
theorem Reps.dropLast {vs:List V}{ds:List PyData}(r:Reps K H vs ds):Reps K H vs.dropLast ds.dropLast:=by
 rw[List.dropLast_eq_take,List.dropLast_eq_take,r.length];exact r.take _
theorem Reps.reverse:∀{vs:List V} {ds:List PyData},Reps K H vs ds->Reps K H vs.reverse ds.reverse
 | _,[],r=>by cases r;exact .nil
 | _,d::ds,r=>by
  cases r with
  | cons a b=>rw[List.reverse_cons,List.reverse_cons];exact(Reps.reverse b).append (.cons a .nil)
theorem aE7:∀(l:List Int),Reps K H (l.map V.int) (l.map PyData.int)
 | []=>.nil
 | i::l=>.cons (.int i) (aE7 l)
theorem Reps.ints:∀{l:List Int} {vs:List V},Reps K H vs (l.map PyData.int)->vs=l.map V.int
 | [],_,r=>by cases r;rfl
 | i::l,_,r=>by
  cases r with
  | cons a b=>cases a;rw[Reps.ints b];rfl
end
open Classical in
noncomputable def hid (S:Addr->Prop)(H:Hp):Hp:=λb=>if S b then none else H b
section
variable {S S':Addr->Prop}{H H':Hp}{b:Addr}{o:HO}
theorem hid_some:hid S H b=some o↔¬S b/\H b=some o:=by
 unfold hid;by_cases h:S b
 ·rw[if_pos h];exact⟨(λe=>nomatch e),λe=>absurd h e.1⟩
 ·rw[if_neg h];exact⟨λe=>⟨h,e⟩,λe=>e.2⟩
theorem X2:Same (hid S H) H:=λb o e=>(hid_some.mp e).2
theorem D4 (h:Same H H')(hs:∀b,S' b->H b≠none->S b):Same (hid S H) (hid S' H'):=λb o e=>by
 obtain ⟨a,c⟩:=hid_some.mp e;exact hid_some.mpr ⟨λz=>a (hs b z (by rw[c];simp)),h b o c⟩
theorem K1 (h:Same H H'):Same (hid S H) (hid S H'):=D4 h λ_ z _=>z
theorem z7 (hs:∀b,S b->∃xs,H b=some (.lst xs)){a:Addr}{xs:List V}(r:Rd H a (.tup xs)):Rd (hid S H) a (.tup xs):=by
 have n:¬S a:=λz=>by
  obtain ⟨ys,e⟩:=hs a z;rcases r with r | ⟨o,r⟩ <;> rw[e]at r <;> cases r
 rcases r with r | ⟨o,r⟩
 ·exact .inl (hid_some.mpr ⟨n,r⟩)
 ·exact .inr ⟨o,hid_some.mpr ⟨n,r⟩⟩
end
inductive OT where
 | leaf (d:PyData) | tup (ts:List OT) | lst (ts:List OT)
mutual
def OT.data:OT->PyData
 | .leaf d=>d
 | .tup ts=>.tuple (OT.datas ts)
 | .lst ts=>.list (OT.datas ts)
def OT.datas:List OT->List PyData
 | []=>[]
 | t::ts=>t.data::OT.datas ts
end
mutual
/-- v is the tree t;L: its lists -/
inductive Dp (K:PySem.W.Frag)(Z H:Hp):V->OT->List Addr->Prop
 | leaf {v:V} {d:PyData}:Rep K Z v d->Dp K Z H v (.leaf d) []
 | tup {a:Addr} {xs:List V} {ts:List OT} {L:List Addr}:SqT K H a xs->Dps K Z H xs ts L->Dp K Z H (.ref a) (.tup ts) L
 | lst {a:Addr} {xs:List V} {ts:List OT} {L:List Addr}:H a=some (.lst xs)->Dps K Z H xs ts L->Dp K Z H (.ref a) (.lst ts) (a::L)
inductive Dps (K:PySem.W.Frag)(Z H:Hp):List V->List OT->List Addr->Prop
 | nil:Dps K Z H [] [] []
 | cons {v:V} {t:OT} {vs:List V} {ts:List OT} {L L':List Addr}:Dp K Z H v t L->Dps K Z H vs ts L'->Dps K Z H (v::vs) (t::ts) (L++L')
end
section
variable {K:PySem.W.Frag}{Z Z' H H':Hp}
mutual
/-- only its lists and what is below count -/
theorem t6 (hz:Same Z Z')(ht:∀a xs,Rd H a (.tup xs)->Rd H' a (.tup xs)):∀(t:OT) {v:V} {L:List Addr},(∀b∈L,H' b=H b)->Dp K Z H v t L->Dp K Z' H' v t L
 | .leaf d,_,_,_,r=>by cases r with | leaf r=>exact .leaf (r.mono hz)
 | .tup ts,_,_,hl,r=>by cases r with | tup s r=>exact .tup (s.imp (ht _ _) id) (Y2 hz ht ts hl r)
 | .lst ts,_,_,hl,r=>by
  cases r with
  | lst s r=>exact .lst (by rw[hl _ (by simp)];exact s) (Y2 hz ht ts (λb h=>hl b (by simp[h])) r)
theorem Y2 (hz:Same Z Z')(ht:∀a xs,Rd H a (.tup xs)->Rd H' a (.tup xs)):∀(ts:List OT) {vs:List V} {L:List Addr},(∀b∈L,H' b=H b)->Dps K Z H vs ts L->Dps K Z' H' vs ts L
 | [],_,_,_,r=>by cases r;exact .nil
 | t::ts,_,_,hl,r=>by
  cases r with
  | cons a b=>exact .cons (t6 hz ht t (λb h=>hl b (by simp[h])) a) (Y2 hz ht ts (λb h=>hl b (by simp[h])) b)
end
mutual
theorem o8:∀(t:OT) {v:V} {L:List Addr},Dp K Z H v t L->∀b∈L,∃xs,H b=some (.lst xs)
 | .leaf d,_,_,r=>by cases r with | leaf r=>intro b h;simp at h
 | .tup ts,_,_,r=>by cases r with | tup s r=>exact Y6 ts r
 | .lst ts,_,_,r=>by
  cases r with
  | lst s r=>
   intro b h;rcases Aa1.mp h with rfl | h
   ·exact⟨_,s⟩
   ·exact Y6 ts r b h
theorem Y6:∀(ts:List OT) {vs:List V} {L:List Addr},Dps K Z H vs ts L->∀b∈L,∃xs,H b=some (.lst xs)
 | [],_,_,r=>by cases r;intro b h;simp at h
 | t::ts,_,_,r=>by
  cases r with
  | cons a b=>
   intro c h;rcases Aa0.mp h with h | h
   ·exact o8 t a c h
   ·exact Y6 ts b c h
end
mutual
/-- the tree is a datum,where one sees its lists -/
theorem bG1 (hz:Same Z H)(ht:∀a xs,Rd H a (.tup xs)->Rd H' a (.tup xs))(hz':Same Z H'):∀(t:OT) {v:V} {L:List Addr},(∀b∈L,H' b=H b)->Dp K Z H v t L->Rep K H' v t.data
 | .leaf d,_,_,_,r=>by cases r with | leaf r=>exact r.mono hz'
 | .tup ts,_,_,hl,r=>by
  cases r with
  | tup s r=>exact .tup (s.imp (ht _ _) id) (aX2 hz ht hz' ts hl r)
 | .lst ts,_,_,hl,r=>by
  cases r with
  | lst s r=>exact .lst (SqL.of (by rw[hl _ (by simp)];exact s)) (aX2 hz ht hz' ts (λb h=>hl b (by simp[h])) r)
theorem aX2 (hz:Same Z H)(ht:∀a xs,Rd H a (.tup xs)->Rd H' a (.tup xs))(hz':Same Z H'):∀(ts:List OT) {vs:List V} {L:List Addr},(∀b∈L,H' b=H b)->Dps K Z H vs ts L->Reps K H' vs (OT.datas ts)
 | [],_,_,_,r=>by cases r;exact .nil
 | t::ts,_,_,hl,r=>by
  cases r with
  | cons a b=>exact .cons (bG1 hz ht hz' t (λb h=>hl b (by simp[h])) a) (aX2 hz ht hz' ts (λb h=>hl b (by simp[h])) b)
end
theorem Dp.mono {t:OT}{v:V}{L:List Addr}(r:Dp K Z H v t L)(hz:Same Z Z')(h:Same H H'):Dp K Z' H' v t L:=
 t6 hz (λ_ _=>W7 h) t (λb hb=>by obtain ⟨xs,e⟩:=o8 t r b hb;rw[e];exact h _ _ e) r
end
inductive Sl where
 | no | val (d:PyData) | own (ds:List PyData) | bor (d:PyData) | tr (t:OT)
def Sl.os:Sl->Bool
 | .own _=>true
 | .tr _=>true
 | _=>false
def D2 (ρ:List Sl)(o:Nat->List Addr)(S:Addr->Prop)(b:Addr):Prop:=S b\/∃(i:Nat) (x:Sl),ρ[i]? = some x/\x.os=true/\b∈o i
structure Env (K:PySem.W.Frag)(S:Addr->Prop)(B H:Hp)(σ:St)(ρ:List Sl)(o:Nat->List Addr):Prop where
 len:σ.length=ρ.length
 base:Same B H
 sl:∀b,S b->∃xs,B b=some (.lst xs)
 new:∀(i:Nat) (x:Sl),ρ[i]? = some x->x.os=true->∀b∈o i,B b=none
 inj:∀(i j:Nat) (x y:Sl),ρ[i]? = some x->ρ[j]? = some y->x.os=true->y.os=true->∀b,b∈o i->b∈o j->i=j
 own:∀(i:Nat) (ds:List PyData),ρ[i]? = some (.own ds)->∃p,o i=[p]/\σ[i]? = some (some (.ref p))/\∃xs,H p=some (.lst xs)/\Reps K (hid (D2 ρ o S) H) xs ds
 val:∀(i:Nat) (d:PyData),ρ[i]? = some (.val d)->∃v,σ[i]? = some (some v)/\Rep K (hid (D2 ρ o S) H) v d
 bor:∀(i:Nat) (d:PyData),ρ[i]? = some (.bor d)->∃v,σ[i]? = some (some v)/\Rep K H v d
 tr:∀(i:Nat) (t:OT),ρ[i]? = some (.tr t)->(o i).Nodup/\∃v,σ[i]? = some (some v)/\Dp K (hid (D2 ρ o S) H) H v t (o i)
section
variable {K:PySem.W.Frag}{S:Addr->Prop}{B H H':Hp}{σ:St}{ρ:List Sl}{o:Nat->List Addr}
theorem Env.grow (e:Env K S B H σ ρ o)(h:Same H H'):Env K S B H' σ ρ o:=
 ⟨e.len,L2.Same.tr e.base h,e.sl,e.new,e.inj,λi ds z=>by
  obtain ⟨p,o',a,xs,b,c⟩:=e.own i ds z;exact⟨p,o',a,xs,h _ _ b,c.mono (K1 h)⟩,λi d z=>by
  obtain ⟨v,a,b⟩:=e.val i d z;exact⟨v,a,b.mono (K1 h)⟩,λi d z=>by
  obtain ⟨v,a,b⟩:=e.bor i d z;exact⟨v,a,b.mono h⟩,λi t z=>by
  obtain ⟨n,v,a,b⟩:=e.tr i t z;exact⟨n,v,a,b.mono (K1 h) h⟩⟩
theorem Env.lists (e:Env K S B H σ ρ o):∀b,D2 ρ o S b->∃xs,H b=some (.lst xs):=λb z=>by
 rcases z with z | ⟨i,x,z,hx,hb⟩
 ·obtain ⟨xs,q⟩:=e.sl b z;exact⟨xs,e.base _ _ q⟩
 ·cases x with
  | own ds=>
   obtain ⟨p,o',_,xs,q,_⟩:=e.own i ds z;rw[o']at hb;exact⟨xs,by rw[Ad8.mp hb];exact q⟩
  | tr t=>
   obtain ⟨_,v,_,q⟩:=e.tr i t z;exact o8 t q b hb
  | _=>cases hx
theorem Env.imm (e:Env K S B H σ ρ o){v:V}{d:PyData}(i:imm d=true)(r:Rep K H v d):Rep K (hid (D2 ρ o S) H) v d:=
 bL0 (λ_ _ q=>z7 e.lists q) d i r
def bS7 (ρ:List Sl)(o:Nat->List Addr)(b:Addr):Prop:=∃(i:Nat) (x:Sl),ρ[i]? = some x/\x.os=true/\b∈o i
theorem Env.rebase (e:Env K S B H σ ρ o):Env K S (hid (bS7 ρ o) H) H σ ρ o/\Same B (hid (bS7 ρ o) H):=by
 have s:Same B (hid (bS7 ρ o) H):=λb x q=>
  hid_some.mpr ⟨(λ⟨i,y,z,hy,hb⟩=>by rw[e.new i y z hy b hb]at q;cases q),e.base b x q⟩
 refine⟨⟨e.len,X2,λb z=>?_,λi x z hx b hb=>?_,e.inj,e.own,e.val,e.bor,e.tr⟩,s⟩
 ·obtain ⟨xs,q⟩:=e.sl b z;exact⟨xs,s _ _ q⟩
 ·unfold hid;exact if_pos ⟨i,x,z,hx,hb⟩
end
noncomputable def vw (m:Bool)(S:Addr->Prop)(H:Hp):Hp:=match m with | true=>hid S H | false=>H
def E (K:PySem.W.Frag)(m:Bool)(t:TE)(ρ:List Sl)(d:PyData):Prop:=
 ∀(S:Addr->Prop) (B:Hp) (σ:St) (H:Hp) (o:Nat->List Addr),Env K S B H σ ρ o->∀Q:VK,(∀v H',Same H H'->Rep K (vw m (D2 ρ o S) H') v d->Q v H')->t σ H Q
def EF (K:PySem.W.Frag)(t:TE)(ρ:List Sl)(ds:List PyData):Prop:=
 ∀(S:Addr->Prop) (B:Hp) (σ:St) (H:Hp) (o:Nat->List Addr),Env K S B H σ ρ o->∀Q:VK,
  (∀p xs H',Same H H'->H p=none->H' p=some (.lst xs)->Reps K (hid (λb=>D2 ρ o S b\/b=p) H') xs ds->Q (.ref p) H')->t σ H Q
def T (K:PySem.W.Frag)(t:TT)(ρ:List Sl)(b:Bool):Prop:=
 ∀(S:Addr->Prop) (B:Hp) (σ:St) (H:Hp) (o:Nat->List Addr),Env K S B H σ ρ o->∀Q:Bool->Hp->Prop,(∀H',Same H H'->Q b H')->t σ H Q
def A (K:PySem.W.Frag)(m:Bool)(t:TA)(ρ:List Sl)(ds:List PyData):Prop:=
 ∀(S:Addr->Prop) (B:Hp) (σ:St) (H:Hp) (o:Nat->List Addr),Env K S B H σ ρ o->∀Q:List V->Hp->Prop,(∀vs H',Same H H'->Reps K (vw m (D2 ρ o S) H') vs ds->Q vs H')->t σ H Q
structure Wk (K:PySem.W.Frag)(Z:Hp)(J:It)(ds:List PyData):Prop where
 stop:∀i H,Same Z H->ds.length<=i->J.stop i H
 go:∀i H d,Same Z H->ds[i]? = some d->J.go i H
 yld:∀i H d x H',Same Z H->ds[i]? = some d->J.yld i H x H'->Same H H'/\∀S:Addr->Prop,(∀b,S b->Z b=none/\H b≠none)->Rep K (hid S H') x d
def I (K:PySem.W.Frag)(m:Bool)(wi:TI)(ρ:List Sl)(ds:List PyData):Prop:=
 ∀(S:Addr->Prop) (B:Hp) (σ:St) (H:Hp) (o:Nat->List Addr),Env K S B H σ ρ o->∀R:It->Hp->Prop,(∀J H',Same H H'->Wk K (vw m (D2 ρ o S) H') J ds->R J H')->wi σ H R
def G (K:PySem.W.Frag)(m:Bool)(g:TG)(d:PyData)(ρ ρ':List Sl):Prop:=(∀(o:Nat->List Addr) (S:Addr->Prop) (b:Addr),D2 ρ' o S b->D2 ρ o S b) /\
 ∀(S:Addr->Prop) (B:Hp) (σ:St) (H:Hp) (o:Nat->List Addr),Env K S B H σ ρ o->∀v,Rep K (vw m (D2 ρ o S) H) v d->∀Q:St->Hp->Prop,(∀σ',Env K S B H σ' ρ' o->Q σ' H)->g v σ H Q
def Gs (K:PySem.W.Frag)(m:Bool)(g:TGs)(ds:List PyData)(ρ ρ':List Sl):Prop:=(∀(o:Nat->List Addr) (S:Addr->Prop) (b:Addr),D2 ρ' o S b->D2 ρ o S b) /\
 ∀(S:Addr->Prop) (B:Hp) (σ:St) (H:Hp) (o:Nat->List Addr),Env K S B H σ ρ o->∀vs,Reps K (vw m (D2 ρ o S) H) vs ds->∀Q:St->Hp->Prop,(∀σ',Env K S B H σ' ρ' o->Q σ' H)->g vs σ H Q
structure AE where
 nx:List Sl->Prop
 rt:PyData->Prop:=λ_=>False
 rl:List PyData->Prop:=λ_=>False
 bk:List Sl->Prop:=λ_=>False
 ct:List Sl->Prop:=λ_=>False
structure Sat (K:PySem.W.Frag)(S:Addr->Prop)(B:Hp)(R:AE)(D:aS8):Prop where
 nx:∀ρ' σ' H' o',Env K S B H' σ' ρ' o'->R.nx ρ'->D.nx σ' H'
 rt:∀v d H',Same B H'->Rep K (hid S H') v d->R.rt d->D.rt v H'
 rl:∀p xs ds H',Same B H'->B p=none->H' p=some (.lst xs)->Reps K (hid (λb=>S b\/b=p) H') xs ds->R.rl ds->D.rt (.ref p) H'
 bk:∀ρ' σ' H' o',Env K S B H' σ' ρ' o'->R.bk ρ'->D.bk σ' H'
 ct:∀ρ' σ' H' o',Env K S B H' σ' ρ' o'->R.ct ρ'->D.ct σ' H'
def W (K:PySem.W.Frag)(t:TS)(ρ:List Sl)(R:AE):Prop:=
 ∀(S:Addr->Prop) (B:Hp) (D:aS8) (σ:St) (H:Hp) (o:Nat->List Addr),Env K S B H σ ρ o->Sat K S B R D->t D σ H
section
variable {K:PySem.W.Frag}{ρ ρ' ρ1:List Sl}{m:Bool}{t ta tb tc:TE}{d d':PyData}{ds es:List PyData}
theorem aH0 {S:Addr->Prop}{H:Hp}:Same (vw m S H) H:=by cases m;exact L2.Same.rf _;exact X2
theorem aT0 {S:Addr->Prop}{H H':Hp}(h:Same H H'):Same (vw m S H) (vw m S H'):=by cases m;exact h;exact K1 h
theorem E.bor (h:E K true t ρ d):E K m t ρ d:=λS B σ H o I Q q=>h S B σ H o I Q λv H' s r=>q v H' s (by cases m;exact r.mono X2;exact r)
theorem E.imm (h:E K m t ρ d)(i:imm d=true:=by rfl):E K true t ρ d:=λS B σ H o I Q q=>h S B σ H o I Q λv H' s r=>q v H' s ((I.grow s).imm i (r.mono aH0))
theorem EF.e' (h:EF K t ρ ds):E K m t ρ (.list ds):=E.bor λS B σ H o I Q q=>h S B σ H o I Q λp xs H' s n e r=>q _ _ s
 (.lst (SqL.of (hid_some.mpr ⟨(λz=>by obtain ⟨ys,y⟩:=I.lists p z;rw[n]at y;cases y),e⟩)) (r.mono (D4 (L2.Same.rf _) λb z _=>.inl z)))
theorem A2 {i:Nat}(h:ρ[i]? = some (.val d)):E K m (D9 i) ρ d:=E.bor λS B σ H o I Q q=>by
 obtain ⟨v,a,b⟩:=I.val i d h;exact⟨v,a,q v H (L2.Same.rf _) b⟩
theorem G9 {i:Nat}(h:ρ[i]? = some (.own ds)):E K false (D9 i) ρ (.list ds):=λS B σ H o I Q q=>by
 obtain ⟨p,o',a,xs,b,c⟩:=I.own i ds h;exact⟨_,a,q _ H (L2.Same.rf _) (.lst (SqL.of b) (c.mono X2))⟩
theorem bS0 {i:Nat}(h:ρ[i]? = some (.bor d)):E K false (D9 i) ρ d:=λS B σ H o I Q q=>by
 obtain ⟨v,a,b⟩:=I.bor i d h;exact⟨v,a,q v H (L2.Same.rf _) b⟩
theorem bR3 {v:V}(h:∀H,Rep K H v d):E K m (tC v) ρ d:=λS B σ H o I Q q=>q v H (L2.Same.rf _) (h _)
theorem A6 {i:Int}:E K m (tC (.int i)) ρ (.int i):=bR3 λ_=>.int i
theorem aO5 {b:Bool}:E K m (tC (.bl b)) ρ (.bool b):=bR3 λ_=>.bl b
theorem cV4:E K m (tC .non) ρ .none:=bR3 λ_=>.non
theorem bW8 {r:R2}(m1 m2:Bool)(ha:E K m1 ta ρ d)(hb:E K m2 tb ρ d'){f:PyData}
  (hr:∀(S:Addr->Prop) (H:Hp) (x y:V) (Q:VK),(∀b,S b->∃xs,H b=some (.lst xs))->Rep K (vw m1 S H) x d->Rep K (vw m2 S H) y d'->(∀v H',Same H H'->Rep K (vw m S H') v f->Q v H')->r x y H Q):E K m (tOp r ta tb) ρ f:=
 λS B σ H o I Q q=>ha S B σ H o I _ λx H1 s1 rx=>hb S B σ H1 o (I.grow s1) _ λy H2 s2 ry=>
  hr (D2 ρ o S) H2 x y Q ((I.grow s1).grow s2).lists (rx.mono (aT0 s2)) ry λv H' s r=>q v H' (L2.Same.tr s1 (L2.Same.tr s2 s)) r
theorem bB4 {r:R2}{i j:Int}{f:PyData}(ha:E K false ta ρ (.int i))(hb:E K false tb ρ (.int j))(hr:∀(H:Hp) (Q:VK),(∀v,(∀H,Rep K H v f)->Q v H)->r (.int i) (.int j) H Q):E K m (tOp r ta tb) ρ f:=
 bW8 false false ha hb λS H x y Q _ rx ry q=>by
  cases rx;cases ry
  exact hr H Q λv r=>q v H (L2.Same.rf _) (r _)
theorem K5 {g:Int->Int->Int}{i j:Int}(ha:E K false ta ρ (.int i))(hb:E K false tb ρ (.int j)):E K m (tOp (rI0 λi j=>.int (g i j)) ta tb) ρ (.int (g i j)):=
 bB4 ha hb λH Q q=>⟨i,j,rfl,rfl,q _ λ_=>.int _⟩
theorem e_i {C:Int->Int->Prop}{g:Int->Int->Int}{i j:Int}(ha:E K false ta ρ (.int i))(hb:E K false tb ρ (.int j))(hc:C i j):E K m (tOp (rI C λi j=>.int (g i j)) ta tb) ρ (.int (g i j)):=
 bB4 ha hb λH Q q=>⟨i,j,rfl,rfl,hc,q _ λ_=>.int _⟩
theorem aB4 {g:Int->Int->Bool}{i j:Int}(ha:E K false ta ρ (.int i))(hb:E K false tb ρ (.int j)):E K m (tOp (rI0 λi j=>.bl (g i j)) ta tb) ρ (.bool (g i j)):=
 bB4 ha hb λH Q q=>⟨i,j,rfl,rfl,q _ λ_=>.bl _⟩
end
end LV
namespace LV
open PySem L2
section
variable {K:PySem.W.Frag}{ρ ρ' ρ1:List Sl}{m m':Bool}{t ta tb tc:TE}{d d':PyData}{ds es:List PyData}
theorem bQ9 {H:Hp}{xs:List V}{i:Int}(r:Reps K H xs ds)(e:atI ds i=some d):∃v,atI xs i=some v/\Rep K H v d:=by
 unfold atI at e ⊢;rw[r.length];cases h:ixN ds.length i with
 | none=>rw[h]at e;cases e
 | some j=>rw[h]at e;exact r.get' (by simpa using e)
def sq:PyData->Option (List PyData)
 | .list ds=>some ds
 | .tuple ds=>some ds
 | _=>none
theorem G5 {i:Int}(ha:E K m ta ρ d)(hb:E K false tb ρ (.int i))(hs:sq d=some ds)(h:atI ds i=some d'):E K m (tOp (rIx K) ta tb) ρ d':=
 bW8 m false ha hb λS H x y Q _ rx ry q=>by
  cases ry;cases rx with
  | lst s r=>
   cases hs
   obtain ⟨v,h1,h2⟩:=bQ9 r h;exact .inl ⟨_,_,i,v,rfl,rfl,S4 aH0 s,h1,q v H (L2.Same.rf _) h2⟩
  | tup s r=>
   cases hs
   obtain ⟨v,h1,h2⟩:=bQ9 r h;exact .inr (.inl ⟨_,_,i,v,rfl,rfl,G8 aH0 s,h1,q v H (L2.Same.rf _) h2⟩)
  | _=>cases hs
theorem K0 {α:Type}{xs:List α}{i:Int}{v:α}(n:Nat)(hn:i=n)(h:xs[n]? = some v):atI xs i=some v:=by
 subst hn;unfold atI ixN
 have:=(Ab0.mp h).1
 rw[if_pos (by omega),if_pos (by omega)]
 simpa using h
theorem aI4 {α:Type}{xs:List α}{v:α}:atI (xs++[v]) (-1)=some v:=by
 unfold atI ixN;rw[if_neg (by omega),if_pos (by simp;omega)]
 have:((-1:Int)+((xs++[v]).length:Nat)).toNat=xs.length:=by simp;omega
 rw[this];simp
theorem A7:A K m S6 ρ []:=λS B σ H o I Q q=>q [] H (L2.Same.rf _) .nil
theorem A1 {tr:TA}(ha:E K m ta ρ d)(hr:A K m tr ρ ds):A K m (E1 ta tr) ρ (d::ds):=λS B σ H o I Q q=>
 ha S B σ H o I _ λx H1 s1 rx=>hr S B σ H1 o (I.grow s1) _ λxs H2 s2 rs=>q _ H2 (L2.Same.tr s1 s2) (.cons (rx.mono (aT0 s2)) rs)
theorem D5 {H:Hp}{p:Addr}{o:HO}(h:H p=none):Same H (upd H p o):=λb x e=>by
 have:b≠p:=λz=>by rw[z,h]at e;cases e
 rw[B0 this];exact e
theorem N5 {t:TA}(h:A K m t ρ ds)(hl:ds.length<=sizeLine:=by first | decide | (unfold PySem.sizeLine;simp)):E K m (aH5 t) ρ (.tuple ds):=λS B σ H o I Q q=>h S B σ H o I _ λxs H1 s1 rs=>⟨by rw[rs.length];exact hl,λp hp=>by
 have g:=D5 (o:=.tup xs) hp
 refine q _ _ (L2.Same.tr s1 g) (.tup (.inl (.inl ?_)) (rs.mono (aT0 g)));cases m with
 | false=>exact C0
 | true=>exact hid_some.mpr ⟨(λz=>by obtain ⟨ys,y⟩:=(I.grow s1).lists p z;rw[hp]at y;cases y),C0⟩⟩
theorem aP1 {S:Addr->Prop}{H:Hp}{p:Addr}{xs ys:List V}(hs:∀b,S b->∃xs,H b=some (.lst xs))(hp:H p=none)(r:Reps K (hid S H) xs ds):Reps K (hid (λb=>S b\/b=p) (upd H p (.lst ys))) xs ds:=
 r.mono (D4 (D5 hp) λb z n=>z.elim id λe=>absurd (by rw[e];exact hp) n)
theorem J4 {t:TA}(h:A K true t ρ ds)(hl:ds.length<=sizeLine:=by first | decide | (unfold PySem.sizeLine;simp)):EF K (cL9 t) ρ ds:=λS B σ H o I Q q=>h S B σ H o I _ λxs H1 s1 rs=>⟨by rw[rs.length];exact hl,λp hp=>
 q p xs _ (L2.Same.tr s1 (D5 hp)) (by cases e:H p with | none=>rfl | some x=>rw[s1 _ _ e]at hp;cases hp) C0 (aP1 (I.grow s1).lists hp rs)⟩
def spV (K:PySem.W.Frag)(pre:List PyData->PyData->Prop):Sp:=λvs H Q _=>∃(ds:List PyData) (S:Addr->Prop) (d:PyData),(∀b,S b->∃xs,H b=some (.lst xs))/\Reps K (hid S H) vs ds/\pre ds d /\
 ∀v H',Same H H'->Rep K (hid S H') v d->Q v H'
def spL (K:PySem.W.Frag)(pre:List PyData->List PyData->Prop):Sp:=λvs H Q _=>∃(ds:List PyData) (S:Addr->Prop) (es:List PyData),(∀b,S b->∃xs,H b=some (.lst xs))/\Reps K (hid S H) vs ds/\pre ds es /\
 ∀p xs H',Same H H'->H p=none->H' p=some (.lst xs)->Reps K (hid (λb=>S b\/b=p) H') xs es->Q (.ref p) H'
theorem bQ6 {H:Hp}:hid (λ_=>False) H=H:=by funext b;unfold hid;exact if_neg id
theorem E3 {pre:List PyData->PyData->Prop}{t:TA}{X:XK}(ha:A K true t ρ ds)(hp:pre ds d):E K m (aP3 (spV K pre) [] X t) ρ d:=E.bor λS B σ H o I Q q=>
 ha S B σ H o I _ λvs H1 s1 rs=>⟨ds,D2 ρ o S,d,(I.grow s1).lists,by rw[List.append_nil];exact rs,hp,λv H' s r=>q v H' (L2.Same.tr s1 s) r⟩
theorem T8 {H H1:Hp}{p:Addr}(s:Same H H1)(h:H1 p=none):H p=none:=by
 cases e:H p with
 | none=>rfl
 | some x=>rw[s _ _ e]at h;cases h
theorem bL2 {pre:List PyData->List PyData->Prop}{t:TA}{X:XK}(ha:A K true t ρ ds)(hp:pre ds es):EF K (aP3 (spL K pre) [] X t) ρ es:=λS B σ H o I Q q=>
 ha S B σ H o I _ λvs H1 s1 rs=>⟨ds,D2 ρ o S,es,(I.grow s1).lists,by rw[List.append_nil];exact rs,hp,λp xs H' s n e r=>q p xs H' (L2.Same.tr s1 s) (T8 s1 n) e r⟩
theorem C7 {b:Bool}(h:E K false t ρ (.bool b)):T K (w4 t) ρ b:=λS B σ H o I Q q=>h S B σ H o I _ λv H' s r=>by cases r;exact⟨b,rfl,q H' s⟩
theorem t_b {b:Bool}(h:E K false t ρ (.bool b)):T K (tB t) ρ b:=λS B σ H o I Q q=>h S B σ H o I _ λv H' s r=>by cases r;exact⟨b,rfl,q H' s⟩
theorem aM9 {u w:TT}{a b:Bool}(h:T K u ρ a)(h':a=true->T K w ρ b):T K (cV1 u w) ρ (a&&b):=λS B σ H o I Q q=>h S B σ H o I _ λH1 s1=>by
 cases a with
 | false=>exact q H1 s1
 | true=>exact h' rfl S B σ H1 o (I.grow s1) _ λH2 s2=>q H2 (L2.Same.tr s1 s2)
theorem aP0 {u w:TT}{a b:Bool}(h:T K u ρ a)(h':a=false->T K w ρ b):T K (tOr u w) ρ (a||b):=λS B σ H o I Q q=>h S B σ H o I _ λH1 s1=>by
 cases a with
 | true=>exact q H1 s1
 | false=>exact h' rfl S B σ H1 o (I.grow s1) _ λH2 s2=>q H2 (L2.Same.tr s1 s2)
theorem aH4 {u:TT}{a:Bool}(h:T K u ρ a):T K (cO7 u) ρ (!a):=λS B σ H o I Q q=>h S B σ H o I _ q
theorem cQ2 {a:Bool}{b:Bool}(h:E K false ta ρ (.bool a))(h':a=true->E K false tb ρ (.bool b)):E K m (cH7 ta tb) ρ (.bool (a&&b)):=E.bor (E.imm (m:=false) λS B σ H o I Q q=>h S B σ H o I _ λv H1 s1 r=>by
 cases r
 refine⟨a,rfl,?_⟩;cases a with
 | false=>exact q _ H1 s1 (.bl _)
 | true=>exact h' rfl S B σ H1 o (I.grow s1) _ λv H2 s2 r=>q v H2 (L2.Same.tr s1 s2) r)
theorem cS5 {a:Bool}(h:E K false ta ρ (.bool a)):E K m (cI0 ta) ρ (.bool (!a)):=E.bor (E.imm (m:=false) λS B σ H o I Q q=>h S B σ H o I _ λv H1 s1 r=>by
 cases r
 exact⟨a,rfl,q _ H1 s1 (.bl _)⟩)
theorem cQ6 {u:TT}{a:Bool}(h:T K u ρ a)(h1:a=true->E K m ta ρ d)(h2:a=false->E K m tb ρ d):E K m (tIf u ta tb) ρ d:=λS B σ H o I Q q=>h S B σ H o I _ λH1 s1=>by
 cases a with
 | true=>exact h1 rfl S B σ H1 o (I.grow s1) _ λv H2 s2 r=>q v H2 (L2.Same.tr s1 s2) r
 | false=>exact h2 rfl S B σ H1 o (I.grow s1) _ λv H2 s2 r=>q v H2 (L2.Same.tr s1 s2) r
theorem cE3 {Z:Hp}{a:Addr}{xs:List V}(s:SqL K Z a xs)(r:Reps K Z xs ds):Wk K Z (Itl K a) ds where
 stop:=λi H h l=>⟨xs,S4 h s,by rw[r.length];exact l⟩
 go:=λi H d h e=>by
  obtain ⟨v,h1,_⟩:=r.get' e;exact⟨xs,v,S4 h s,h1⟩
 yld:=λi H d x H' h e y=>by
  obtain ⟨rfl,y⟩:=y
  have:=y xs (S4 h s)
  obtain ⟨d',h1,h2⟩:=r.get this;rw[e]at h1;cases h1;refine⟨L2.Same.rf _,λS hS=>h2.mono λb o q=>hid_some.mpr ⟨λz=>?_,h b o q⟩⟩
  rw[(hS b z).1]at q;cases q
theorem cJ7 {Z:Hp}{a:Addr}{xs:List V}(s:SqT K Z a xs)(r:Reps K Z xs ds):Wk K Z (Itt K a) ds where
 stop:=λi H h l=>⟨xs,G8 h s,by rw[r.length];exact l⟩
 go:=λi H d h e=>by
  obtain ⟨v,h1,_⟩:=r.get' e;exact⟨xs,v,G8 h s,h1⟩
 yld:=λi H d x H' h e y=>by
  obtain ⟨rfl,y⟩:=y
  have:=y xs (G8 h s)
  obtain ⟨d',h1,h2⟩:=r.get this;rw[e]at h1;cases h1;refine⟨L2.Same.rf _,λS hS=>h2.mono λb o q=>hid_some.mpr ⟨λz=>?_,h b o q⟩⟩
  rw[(hS b z).1]at q;cases q
def T3 (lo:Int)(n:Nat):List PyData:=(List.range n).map λ(i:Nat)=>PyData.int (lo+(i:Int))
theorem bS3 {Z:Hp}{lo:Int}{n:Nat}:Wk K Z (Itr lo n) (T3 lo n) where
 stop:=λi H h l=>by
  have:n<=i:=by simpa[T3]using l
  exact this
 go:=λi H d h e=>by
  have:=(Ab0.mp e).1
  have:i<n:=by simpa[T3]using this
  exact this
 yld:=λi H d x H' h e y=>by
  obtain ⟨rfl,rfl⟩:=y
  have:d=.int (lo+i):=by
   have hi:=(Ab0.mp e).1
   have hn:i<n:=by simpa[T3]using hi
   unfold T3 at e;rw[Aa9,List.getElem?_range hn]at e;exact(Ab4 e).symm
  subst this;exact⟨L2.Same.rf _,λS hS=>.int _⟩
theorem aX1 (h:E K m t ρ (.list ds)):I K m (bY5 K t) ρ ds:=λS B σ H o J R q=>h S B σ H o J _ λv H1 s1 r=>by
 cases r with
 | lst s r=>exact⟨_,rfl,⟨_,S4 aH0 s⟩,q _ H1 s1 (cE3 s r)⟩
theorem v9 (h:E K m t ρ (.tuple ds)):I K m (cT1 K t) ρ ds:=λS B σ H o J R q=>h S B σ H o J _ λv H1 s1 r=>by
 cases r with
 | tup s r=>exact⟨_,rfl,⟨_,G8 aH0 s⟩,q _ H1 s1 (cJ7 s r)⟩
theorem P7 {t:TA}{j:Int}(h:A K false t ρ [.int j])(h1 : -(2^62)<=j)(h2:j<2^62):I K m (cG0 t) ρ (T3 0 j.toNat):=λS B σ H o J R q=>h S B σ H o J _ λvs H1 s1 r=>by
 cases r with
 | cons a b=>cases a;cases b;exact⟨j,rfl,h1,h2,q _ H1 s1 bS3⟩
theorem cK1 {t:TA}{i j:Int}(h:A K false t ρ [.int i,.int j])(h0 : -(2^62)<=i/\i<2^62 /\ -(2^62)<=j/\j<2^62):I K m (cH5 t) ρ (T3 i (j-i).toNat):=λS B σ H o J R q=>h S B σ H o J _ λvs H1 s1 r=>by
 cases r with
 | cons a b=>cases a;cases b with | cons a b=>cases a;cases b;exact⟨i,j,rfl,h0,q _ H1 s1 bS3⟩
theorem aI5 {o:Nat->List Addr}{S:Addr->Prop}{i:Nat}{x:Sl}(hx:x.os=false){b:Addr}(z:D2 (ρ.set i x) o S b):D2 ρ o S b:=by
 rcases z with z | ⟨j,y,h,hy,e⟩
 ·exact .inl z
 ·refine .inr ⟨j,y,?_,hy,e⟩;rw[List.getElem?_set]at h;by_cases c:i=j
  ·rw[if_pos c]at h;split at h
   ·rw[<- Ab4 h,hx]at hy;cases hy
   ·cases h
  ·rw[if_neg c]at h;exact h
def slot (m:Bool)(d:PyData):Sl:=match m with | true=>.val d | false=>.bor d
theorem Env.set {S:Addr->Prop}{B H:Hp}{σ:St}{o:Nat->List Addr}(I:Env K S B H σ ρ o)(i:Nat){v:V}(r:Rep K (vw m (D2 ρ o S) H) v d):Env K S B H (σ.set i (some v)) (ρ.set i (slot m d)) o:=by
 have nx:(slot m d).os=false:=by cases m <;> rfl
 have nd:∀{x:Sl},x.os=true->x≠slot m d:=λ{x} h e=>by rw[e,nx]at h;cases h
 have at_:∀{j:Nat} {x:Sl},x≠slot m d->(ρ.set i (slot m d))[j]? = some x->i≠j/\ρ[j]? = some x:=λ{j x} hx h=>by
  rw[List.getElem?_set]at h;by_cases c:i=j
  ·rw[if_pos c]at h;split at h
   ·exact absurd (Ab4 h).symm hx
   ·cases h
  ·rw[if_neg c]at h;exact⟨c,h⟩
 have g:Same (hid (D2 ρ o S) H) (hid (D2 (ρ.set i (slot m d)) o S) H):=D4 (L2.Same.rf _) λb z _=>aI5 nx z
 refine⟨by simp[I.len],I.base,I.sl,λj x h hx=>I.new j x (at_ (nd hx) h).2 hx,λj k x y h h' hx hy=>I.inj j k x y (at_ (nd hx) h).2 (at_ (nd hy) h').2 hx hy,λj ds h=>?_,λj d' h=>?_,λj d' h=>?_,λj t h=>?_⟩
 ·obtain ⟨c,h⟩:=at_ (nd rfl) h;obtain ⟨p,o',a,xs,b,r'⟩:=I.own j ds h;exact⟨p,o',by rw[Ad0 c];exact a,xs,b,r'.mono g⟩
 ·by_cases c:i=j
  ·subst c;have hl:i<ρ.length:=by
    have:=(Ab0.mp h).1
    simpa using this
   rw[List.getElem?_set_self (by simpa using hl)]at h
   cases m with
   | false=>simp[slot]at h
   | true=>
    simp[slot]at h;subst h
    exact⟨v,List.getElem?_set_self (by rw[I.len];exact hl),r.mono g⟩
  ·rw[Ad0 c]at h;obtain ⟨u,a,b⟩:=I.val j d' h;exact⟨u,by rw[Ad0 c];exact a,b.mono g⟩
 ·by_cases c:i=j
  ·subst c;have hl:i<ρ.length:=by
    have:=(Ab0.mp h).1
    simpa using this
   rw[List.getElem?_set_self (by simpa using hl)]at h
   cases m with
   | true=>simp[slot]at h
   | false=>
    simp[slot]at h;subst h
    exact⟨v,List.getElem?_set_self (by rw[I.len];exact hl),r⟩
  ·rw[Ad0 c]at h;obtain ⟨u,a,b⟩:=I.bor j d' h;exact⟨u,by rw[Ad0 c];exact a,b⟩
 ·obtain ⟨c,h⟩:=at_ (nd rfl) h;obtain ⟨n,u,a,b⟩:=I.tr j t h;exact⟨n,u,by rw[Ad0 c];exact a,b.mono g (L2.Same.rf _)⟩
theorem cC2:(slot m d).os=false:=by cases m <;> rfl
theorem B9 {i:Nat}:G K m (N2 i) d ρ (ρ.set i (slot m d)):=⟨λo S b z=>aI5 cC2 z,λS B σ H o I v r Q q=>q _ (I.set i r)⟩
theorem r9:Gs K m bE9 [] ρ ρ:=⟨λ_ _ _ z=>z,λS B σ H o I vs r Q q=>by cases r;exact⟨rfl,q σ I⟩⟩
theorem cK8 {o:Nat->List Addr}{S:Addr->Prop}{H:Hp}(h:∀(o:Nat->List Addr) (S:Addr->Prop) (b:Addr),D2 ρ' o S b->D2 ρ o S b):Same (vw m (D2 ρ o S) H) (vw m (D2 ρ' o S) H):=by
 cases m with
 | false=>exact L2.Same.rf _
 | true=>exact D4 (L2.Same.rf _) λb z _=>h o S b z
theorem K3 {g:TG}{gs:TGs}(h:G K m g d ρ ρ1)(h':Gs K m gs ds ρ1 ρ'):Gs K m (aE2 g gs) (d::ds) ρ ρ':=⟨λo S b z=>h.1 o S b (h'.1 o S b z),λS B σ H o I vs r Q q=>by
 cases r with
 | cons a b=>exact⟨_,_,rfl,h.2 S B σ H o I _ a _ λσ1 I1=>h'.2 S B σ1 H o I1 _ (b.mono (cK8 h.1)) _ q⟩⟩
theorem aG9 {gs:TGs}{n:Nat}(h:Gs K m gs ds ρ ρ')(hn:ds.length=n:=by rfl):G K m (bU6 K n gs) (.tuple ds) ρ ρ':=⟨h.1,λS B σ H o I v r Q q=>by
 cases r with
 | tup s r=>exact⟨_,_,rfl,G8 aH0 s,by rw[r.length];exact hn,h.2 S B σ H o I _ r _ q⟩⟩
theorem B1 {t u:TS}{R:AE}(h:W K t ρ {R with nx:=λρ'=>W K u ρ' R}):W K (cU7 t u) ρ R:=λS B D σ H o I s=>
 h S B {D with nx:=u D} σ H o I ⟨λρ' σ' H' o' I' w=>w S B D σ' H' o' I' s,s.rt,s.rl,s.bk,s.ct⟩
theorem N1 {R:AE}(h:R.nx ρ):W K cH3 ρ R:=λS B D σ H o I s=>s.nx ρ σ H o I h
theorem aZ4 {g:TG}{R:AE}(h:E K m t ρ d)(hg:G K m g d ρ ρ')(hn:R.nx ρ'):W K (aO4 t g) ρ R:=λS B D σ H o I s=>
 h S B σ H o I _ λv H' s' r=>hg.2 S B σ H' o (I.grow s') v r _ λσ' I'=>s.nx _ σ' H' o I' hn
theorem L8 {i:Nat}{R:AE}(h:E K true t ρ d)(hn:R.nx (ρ.set i (.val d))):W K (aO4 t (N2 i)) ρ R:=aZ4 (ρ' := ρ.set i (.val d)) h B9 hn
theorem L9 {R:AE}(h:E K true t ρ d)(hn:R.rt d):W K (cE9 t) ρ R:=λS B D σ H o I s=>
 h S B σ H o I _ λv H' s' r=>s.rt v d H' (L2.Same.tr I.base s') (r.mono (D4 (L2.Same.rf _) λb z _=>.inl z)) hn
theorem cK9 {R:AE}(h:EF K t ρ ds)(hn:R.rl ds):W K (cE9 t) ρ R:=λS B D σ H o I s=>
 h S B σ H o I _ λp xs H' s' n e r=>s.rl p xs ds H' (L2.Same.tr I.base s') (T8 I.base n) e (r.mono (D4 (L2.Same.rf _) λb z _=>z.imp .inl id)) hn
theorem bR5 {i:Nat}{R:AE}(h:ρ[i]? = some (.own ds))(hn:R.rl ds):W K (cE9 (D9 i)) ρ R:=λS B D σ H o I s=>by
 obtain ⟨p,hp,a,xs,b,c⟩:=I.own i ds h;exact⟨_,a,s.rl _ xs ds H I.base (I.new i _ h rfl _ (by rw[hp];simp)) b (c.mono (D4 (L2.Same.rf _) λb z _=>z.elim .inl λe=>.inr ⟨i,_,h,rfl,by rw[hp,e];simp⟩)) hn⟩
theorem m6 {c:TT}{t u:TS}{b:Bool}{R:AE}(h:T K c ρ b)(h1:b=true->W K t ρ R)(h2:b=false->W K u ρ R):W K (cM9 c t u) ρ R:=λS B D σ H o I s=>h S B σ H o I _ λH' s'=>by
 cases b with
 | true=>exact h1 rfl S B D σ H' o (I.grow s') s
 | false=>exact h2 rfl S B D σ H' o (I.grow s') s
theorem W.weak {t:TS}{R R':AE}(h:W K t ρ R)(h1:∀ρ,R.nx ρ->R'.nx ρ)(h2:∀d,R.rt d->R'.rt d)(h3:∀d,R.rl d->R'.rl d)(h4:∀ρ,R.bk ρ->R'.bk ρ)(h5:∀ρ,R.ct ρ->R'.ct ρ):W K t ρ R':=λS B D σ H o I s=>
 h S B D σ H o I ⟨λρ' σ' H' o' I' w=>s.nx ρ' σ' H' o' I' (h1 _ w),λv d H' a b c=>s.rt v d H' a b (h2 _ c),λp xs ds H' a b c e w=>s.rl p xs ds H' a b c e (h3 _ w),λρ' σ' H' o' I' w=>s.bk ρ' σ' H' o' I' (h4 _ w),λρ' σ' H' o' I' w=>s.ct ρ' σ' H' o' I' (h5 _ w)⟩
def aY7 (o:Nat->List Addr)(i:Nat)(L:List Addr)(j:Nat):List Addr:=if j=i then L else o j
theorem T6 {o:Nat->List Addr}{i:Nat}{L:List Addr}:aY7 o i L i=L:=if_pos rfl
theorem R9 {o:Nat->List Addr}{i j:Nat}{L:List Addr}(h:i≠j):aY7 o i L j=o j:=if_neg λz=>h z.symm
def Holds (K:PySem.W.Frag)(Z H:Hp)(v:V)(x:Sl)(L:List Addr):Prop:=
 (∃ds p xs,x=.own ds/\L=[p]/\v=.ref p/\H p=some (.lst xs)/\Reps K Z xs ds)\/∃t,x=.tr t/\L.Nodup/\Dp K Z H v t L
theorem Holds.os {Z H:Hp}{v:V}{x:Sl}{L:List Addr}(h:Holds K Z H v x L):x.os=true:=by
 rcases h with ⟨ds,p,xs,rfl,_⟩ | ⟨t,rfl,_⟩ <;> rfl
def bU7 (ρ:List Sl)(o:Nat->List Addr)(i:Nat)(b:Addr):Prop:=∃y,ρ[i]? = some y/\y.os=true/\b∈o i
theorem Env.put {S:Addr->Prop}{B H H':Hp}{σ:St}{o:Nat->List Addr}{v:V}{x:Sl}{L:List Addr}(I:Env K S B H σ ρ o)(i:Nat)(hi:i<ρ.length)(D:Addr->Prop)(hD:∀b,D b->bU7 ρ o i b)
  (hH:∀b y,H b=some y->¬D b->H' b=some y) (hL:∀b∈L,bU7 ρ o i b\/H b=none) (hx:Holds K (hid (λb=>D2 ρ o S b\/b∈L) H') H' v x L)
  (nb:(∀b,¬D b)\/∀(j:Nat) (d:PyData),ρ[j]?≠some (Sl.bor d)):Env K S B H' (σ.set i (some v)) (ρ.set i x) (aY7 o i L):=by
 have hos:=hx.os
 have at_:∀{j:Nat} {y:Sl},i≠j->(ρ.set i x)[j]? = some y->ρ[j]? = some y:=λ{j y} c h=>by rw[Ad0 c]at h;exact h
 have self:(ρ.set i x)[i]? = some x:=List.getElem?_set_self hi
 have sub:∀b,D2 (ρ.set i x) (aY7 o i L) S b->D2 ρ o S b\/b∈L:=λb z=>by
  rcases z with z | ⟨j,y,h,hy,e'⟩
  ·exact .inl (.inl z)
  ·by_cases c:i=j
   ·subst c;rw[T6]at e';exact .inr e'
   ·rw[R9 c]at e';exact .inl (.inr ⟨j,y,at_ c h,hy,e'⟩)
 have own_:∀b,bU7 ρ o i b->D2 ρ o S b:=λb ⟨y,h1,h2,h3⟩=>.inr ⟨i,y,h1,h2,h3⟩
 have g:Same (hid (D2 ρ o S) H) (hid (D2 (ρ.set i x) (aY7 o i L) S) H'):=λb y q=>by
  obtain ⟨a,q⟩:=hid_some.mp q;refine hid_some.mpr ⟨λz=>?_,hH b y q λz=>a (own_ b (hD b z))⟩
  rcases sub b z with z | z
  ·exact a z
  ·rcases hL b z with z | z
   ·exact a (own_ b z)
   ·rw[z]at q;cases q
 have ht:∀a ys,Rd H a (.tup ys)->Rd H' a (.tup ys):=λa ys r=>by
  have n:¬D a:=λz=>by
   obtain ⟨zs,e⟩:=I.lists a (own_ a (hD a z));rcases r with r | ⟨o,r⟩ <;> rw[e]at r <;> cases r
  rcases r with r | ⟨o,r⟩
  ·exact .inl (hH _ _ r n)
  ·exact .inr ⟨o,hH _ _ r n⟩
 have far:∀{j:Nat} {y:Sl},i≠j->ρ[j]? = some y->y.os=true->∀b∈o j,¬D b:=λ{j y} c h hy b hb z=>by
  obtain ⟨w,h1,h2,h3⟩:=hD b z;exact c (I.inj i j w y h1 h h2 hy b h3 hb)
 have kept:∀{j:Nat} {y:Sl},i≠j->ρ[j]? = some y->y.os=true->∀b∈o j,H' b=H b:=λ{j y} c h hy b hb=>by
  obtain ⟨zs,e⟩:=I.lists b (.inr ⟨j,y,h,hy,hb⟩);rw[e];exact hH _ _ e (far c h hy b hb)
 have notL:∀{j:Nat} {y:Sl},i≠j->ρ[j]? = some y->y.os=true->∀b∈o j,b∉L:=λ{j y} c h hy b hb z=>by
  rcases hL b z with ⟨w,h1,h2,h3⟩ | z
  ·exact c (I.inj i j w y h1 h h2 hy b h3 hb)
  ·obtain ⟨zs,e⟩:=I.lists b (.inr ⟨j,y,h,hy,hb⟩);rw[z]at e;cases e
 have base:Same B H':=λb y q=>hH b y (I.base b y q) λz=>by
  obtain ⟨w,h1,h2,h3⟩:=hD b z;rw[I.new i w h1 h2 b h3]at q;cases q
 refine⟨by simp[I.len],base,I.sl,λj y h hy b hb=>?_,λj k y z h h' hy hz b hb hb'=>?_,λj es h=>?_,λj d' h=>?_,λj d' h=>?_,λj t h=>?_⟩
 ·by_cases c:i=j
  ·subst c;rw[T6]at hb;rcases hL b hb with ⟨w,h1,h2,h3⟩ | z
   ·exact I.new i w h1 h2 b h3
   ·exact T8 I.base z
  ·rw[R9 c]at hb;exact I.new j y (at_ c h) hy b hb
 ·by_cases c:i=j
  ·subst c;by_cases c':i=k
   ·exact c'
   ·rw[T6]at hb;rw[R9 c']at hb';exact absurd hb (notL c' (at_ c' h') hz b hb')
  ·by_cases c':i=k
   ·subst c';rw[T6]at hb';rw[R9 c]at hb;exact absurd hb' (notL c (at_ c h) hy b hb)
   ·rw[R9 c]at hb;rw[R9 c']at hb';exact I.inj j k y z (at_ c h) (at_ c' h') hy hz b hb hb'
 ·by_cases c:i=j
  ·subst c;rw[self]at h;cases h;rw[T6];rcases hx with ⟨ds,p,xs,e,h2,h3,h4,h5⟩ | ⟨t,e,_⟩
   ·cases e
    exact⟨p,h2,by rw[List.getElem?_set_self (by rw[I.len];exact hi),h3],xs,h4,h5.mono (D4 (L2.Same.rf _) λb z _=>sub b z)⟩
   ·cases e
  ·rw[R9 c];obtain ⟨p,o',a,ys,b,r'⟩:=I.own j es (at_ c h);exact⟨p,o',by rw[Ad0 c];exact a,ys,by rw[kept c (at_ c h) rfl p (by rw[o'];simp)];exact b,r'.mono g⟩
 ·by_cases c:i=j
  ·subst c;rw[self]at h;cases h;cases hos
  ·obtain ⟨u,a,b⟩:=I.val j d' (at_ c h);exact⟨u,by rw[Ad0 c];exact a,b.mono g⟩
 ·by_cases c:i=j
  ·subst c;rw[self]at h;cases h;cases hos
  ·rcases nb with nb | nb
   ·obtain ⟨u,a,b⟩:=I.bor j d' (at_ c h);exact⟨u,by rw[Ad0 c];exact a,b.mono λb y q=>hH b y q (nb b)⟩
   ·exact absurd (at_ c h) (nb j d')
 ·by_cases c:i=j
  ·subst c;rw[self]at h;cases h;rw[T6];rcases hx with ⟨ds,p,xs,e,_⟩ | ⟨t',e,h2,h3⟩
   ·cases e
   ·cases e
    exact⟨h2,v,List.getElem?_set_self (by rw[I.len];exact hi),h3.mono (D4 (L2.Same.rf _) λb z _=>sub b z) (L2.Same.rf _)⟩
  ·rw[R9 c];obtain ⟨n,u,a,b⟩:=I.tr j t (at_ c h);exact⟨n,u,by rw[Ad0 c];exact a,t6 g ht t (kept c (at_ c h) rfl) b⟩
theorem Env.setF {S:Addr->Prop}{B H H':Hp}{σ:St}{o:Nat->List Addr}{p:Addr}{xs:List V}(I:Env K S B H σ ρ o)(i:Nat)(s:Same H H')(n:H p=none)(e:H' p=some (.lst xs))(r:Reps K (hid (λb=>D2 ρ o S b\/b=p) H') xs ds)(hi:i<ρ.length) :
  Env K S B H' (σ.set i (some (.ref p))) (ρ.set i (.own ds)) (aY7 o i [p]):=
 I.put i hi (λ_=>False) (λ_ z=>z.elim) (λb y q _=>s b y q) (λb z=>.inr (by rw[Ad8.mp z];exact n)) (.inl ⟨ds,p,xs,rfl,rfl,rfl,e,r.mono (D4 (L2.Same.rf _) λb z _=>z.imp id λz=>Ad8.mp z)⟩) (.inl λ_ z=>z)
theorem bD9 {α:Type}{l:List α}{i:Nat}{a:α}(h:l[i]? = some a):l.set i a=l:=by
 obtain ⟨h1,h2⟩:=Ab0.mp h;rw[<- h2];exact List.set_getElem_self h1
theorem K2 {i:Nat}{R:AE}(h:EF K t ρ ds)(hn:R.nx (ρ.set i (.own ds)))(hi:i<ρ.length:=by first | decide | (simp;done) | (simp[LV.sl0];done)):W K (aO4 t (N2 i)) ρ R:=λS B D σ H o I s=>
 h S B σ H o I _ λp xs H' s' n e r=>s.nx _ _ H' _ (I.setF i s' n e r hi) hn
theorem Env.upd {S:Addr->Prop}{B H:Hp}{σ:St}{o:Nat->List Addr}{i:Nat}{p:Addr}{xs:List V}(I:Env K S B H σ ρ o)(h:ρ[i]? = some (.own ds))(hp:o i=[p])(r:Reps K (hid (D2 ρ o S) H) xs es)(nb:∀(j:Nat) (d:PyData),ρ[j]?≠some (Sl.bor d)) :
  Env K S B (upd H p (.lst xs)) σ (ρ.set i (.own es)) (aY7 o i [p]):=by
 have hi:i<ρ.length:=(Ab0.mp h).1
 obtain ⟨p',hp',a,ys,b,c⟩:=I.own i ds h;rw[hp]at hp';cases hp';have oi:bU7 ρ o i p:=⟨_,h,rfl,by rw[hp];simp⟩
 have os:D2 ρ o S p:=.inr ⟨i,_,h,rfl,by rw[hp];simp⟩
 have:=I.put (H':=L2.upd H p (.lst xs)) (v:=.ref p) (x:=.own es) (L:=[p]) i hi (λb=>b=p) (λb z=>by rw[z];exact oi) (λb y q z=>by rw[B0 z];exact q) (λb z=>.inl (by rw[Ad8.mp z];exact oi))
  (.inl ⟨es,p,xs,rfl,rfl,rfl,C0,r.mono λb y q=>by
   obtain ⟨q1,q2⟩:=hid_some.mp q;refine hid_some.mpr ⟨λz=>q1 (z.elim id λz=>by rw[Ad8.mp z];exact os),?_⟩
   rw[B0 (λz=>q1 (by rw[z];exact os))];exact q2⟩) (.inr nb)
 rw[bD9 a]at this;exact this
def S7:List Sl->Bool
 | []=>true
 | .bor _::_=>false
 | _::r=>S7 r
theorem L6:∀{ρ:List Sl},S7 ρ=true->∀(j:Nat) (d:PyData),ρ[j]?≠some (Sl.bor d)
 | [],_,j,d=>by simp
 | .bor _::_,h,_,_=>by cases h
 | .no::r,h,0,d=>by simp
 | .no::r,h,j+1,d=>by simpa using L6 (ρ:=r) h j d
 | .val _::r,h,0,d=>by simp
 | .val _::r,h,j+1,d=>by simpa using L6 (ρ:=r) h j d
 | .own _::r,h,0,d=>by simp
 | .own _::r,h,j+1,d=>by simpa using L6 (ρ:=r) h j d
 | .tr _::r,h,0,d=>by simp
 | .tr _::r,h,j+1,d=>by simpa using L6 (ρ:=r) h j d
theorem R5 {i:Nat}{R:AE}(hi:ρ[i]? = some (.own ds))(h:E K true t ρ d)(hl:ds.length<sizeLine)(hn:R.nx (ρ.set i (.own (ds++[d]))))(nb:S7 ρ=true:=by rfl) :
  W K (aP4 (tBM K "list" aD9 (D9 i) (E1 t S6))) ρ R:=λS B D σ H o I s=>by
 obtain ⟨p,hp,a,xs,b,c⟩:=I.own i ds hi;refine⟨_,a,.inl ⟨rfl,xs,SqL.of b⟩,?_⟩;refine h S B σ H o I _ λv H' s' r=>?_
 refine⟨_,xs,v,rfl,rfl,s' _ _ b,by rw[c.length];exact hl,?_⟩
 exact s.nx _ σ _ _ ((I.grow s').upd hi hp ((c.mono (K1 s')).append (.cons r .nil)) (L6 nb)) hn
theorem aY0 {S:Addr->Prop}{H:Hp}{o:Nat->List Addr}{i:Nat}{p:Addr}{xs:List V}(hi:ρ[i]? = some (.own ds))(hp:o i=[p]):Same (hid (D2 ρ o S) H) (hid (D2 (ρ.set i (.own es)) (aY7 o i [p]) S) (L2.upd H p (.lst xs))):=λb' x q=>by
 obtain ⟨q1,q2⟩:=hid_some.mp q;refine hid_some.mpr ⟨λz=>q1 ?_,?_⟩
 ·rcases z with z | ⟨k,y,h',hy,e'⟩
  ·exact .inl z
  ·by_cases ck:i=k
   ·subst ck;rw[T6,<- hp]at e';exact .inr ⟨i,_,hi,rfl,e'⟩
   ·rw[Ad0 ck]at h';rw[R9 ck]at e';exact .inr ⟨k,y,h',hy,e'⟩
 ·rw[B0 (λz=>q1 (.inr ⟨i,_,hi,rfl,by rw[hp,z];simp⟩))];exact q2
theorem cU6 {i j:Nat}{R:AE}(hi:ρ[i]? = some (.own (ds++[d])))(hn:R.nx ((ρ.set i (.own ds)).set j (.val d)))(nb:S7 ρ=true:=by rfl) :
  W K (aO4 (cM1 K "list" cL8 (D9 i)) (N2 j)) ρ R:=λS B D σ H o I s=>by
 obtain ⟨p,hp,a,xs,b,c⟩:=I.own i _ hi;have hl:=c.length;obtain ⟨y,h1,h2⟩:=c.get' (i:=ds.length) (d:=d) (by simp)
 refine⟨_,a,.inl ⟨rfl,xs,SqL.of b⟩,_,xs,y,rfl,rfl,b,?_,?_⟩
 ·rw[hl];simpa using h1
 ·have c':=c.dropLast
  rw[List.dropLast_concat]at c';have I':=I.upd hi hp c' (L6 nb);refine s.nx _ _ _ _ (Env.set (m:=true) I' j (h2.mono ?_)) hn;exact aY0 hi hp
theorem P4 {wi:TI}{g:TG}{tb:TS}{R:AE}(hi:I K true wi ρ ds)(P:Nat->List Sl->Prop)(h0:P 0 ρ)
  (turn:∀i d ρ',ds[i]? = some d->P i ρ'->∃ρ'',G K true g d ρ' ρ''/\W K tb ρ'' {R with nx:=P (i+1),ct:=P (i+1),bk:=R.nx}) (hn:∀ρ',P ds.length ρ'->R.nx ρ'):W K (cT7 wi g tb) ρ R:=λS B D σ H o I0 s=>
 hi S B σ H o I0 _ λJ H1 s1 wk=>by
  obtain ⟨I1,sb⟩:=(I0.grow s1).rebase;generalize hB:hid (bS7 ρ o) H1=B' at I1 sb;have sz:Same (hid (D2 ρ o S) H1) B':=λb x q=>by
   obtain ⟨q1,q2⟩:=hid_some.mp q;rw[<- hB];exact hid_some.mpr ⟨λz=>q1 (.inr z),q2⟩
  refine⟨λi m σ' H'=>i<=ds.length/\m=ds.length-i/\∃ρ' o',Env K S B' H' σ' ρ' o'/\P i ρ',⟨_,Nat.zero_le _,rfl,ρ,o,I1,h0⟩,?_⟩
  rintro i k σ' H' ⟨hl,rfl,ρ',o',I',p⟩;have zH:=L2.Same.tr sz I'.base;by_cases c:i=ds.length
  ·subst c;exact .inl ⟨wk.stop _ _ zH (Aa7 _),s.nx ρ' σ' H' o' ⟨I'.len,L2.Same.tr sb I'.base,λb z=>(I0.sl b z),λi ds z hz b hb=>T8 sb (I'.new i ds z hz b hb),I'.inj,I'.own,I'.val,I'.bor,I'.tr⟩ (hn ρ' p)⟩
  ·have hlt:i<ds.length:=by omega
   have hd:ds[i]? = some ds[i]:=Aa2 hlt
   obtain ⟨ρ'',hg,hb⟩:=turn i ds[i] ρ' hd p;refine .inr ⟨wk.go _ _ _ zH hd,λσ2 H2=>∃ρ2 o2,Env K S B' H2 σ2 ρ2 o2/\P (i+1) ρ2,λσ2 H2 ⟨ρ2,o2,I2,p2⟩=>⟨_,by omega,hlt,rfl,ρ2,o2,I2,p2⟩,λx H'' hy=>?_⟩
   obtain ⟨s2,hx⟩:=wk.yld _ _ _ _ _ zH hd hy;have rx:=hx (D2 ρ' o' S) λb z=>by
    obtain ⟨ys,y⟩:=I'.lists b z;refine⟨?_,by rw[y];simp⟩
    rcases z with z | ⟨j,es,h',hy,e'⟩
    ·unfold vw hid;exact if_pos (.inl z)
    ·exact T8 sz (I'.new j es h' hy b e')
   refine hg.2 S B' σ' H'' o' (I'.grow s2) x rx _ λσ2 I2=>hb S B' _ σ2 H'' o' I2 ⟨λρ3 σ3 H3 o3 I3 w=>⟨ρ3,o3,I3,w⟩,λv d H3 a b w=>s.rt v d H3 (L2.Same.tr sb a) b w,λp xs es H3 a b c e w=>s.rl p xs es H3 (L2.Same.tr sb a) (T8 sb b) c e w,
    λρ3 σ3 H3 o3 I3 w=>s.nx ρ3 σ3 H3 o3 ⟨I3.len,L2.Same.tr sb I3.base,λb z=>(I0.sl b z),λi ds z hz b hb=>T8 sb (I3.new i ds z hz b hb),I3.inj,I3.own,I3.val,I3.bor,I3.tr⟩ w,λρ3 σ3 H3 o3 I3 w=>⟨ρ3,o3,I3,w⟩⟩
theorem aV6 {c:TT}{tb:TS}{R:AE}(P:Nat->List Sl->Prop)(h0:∃k,P k ρ)
  (turn:∀k ρ',P k ρ'->∃b,T K c ρ' b/\if b=true then W K tb ρ' {R with nx:=λρ2=>∃k',k'<k/\P k' ρ2,ct:=λρ2=>∃k',k'<k/\P k' ρ2,bk:=R.nx} else R.nx ρ'):W K (bZ6 c tb) ρ R:=λS B D σ H o I0 s=>by
 obtain ⟨k0,p0⟩:=h0;refine⟨λk σ' H'=>∃ρ' o',Env K S B H' σ' ρ' o'/\P k ρ',⟨k0,ρ,o,I0,p0⟩,?_⟩
 rintro k σ' H' ⟨ρ',o',I',p⟩;obtain ⟨b,hc,hb⟩:=turn k ρ' p;refine hc S B σ' H' o' I' _ λH1 s1=>?_
 cases b with
 | true=>
  rw[if_pos rfl]at hb ⊢;refine⟨λσ2 H2=>∃k',k'<k/\∃ρ2 o2,Env K S B H2 σ2 ρ2 o2/\P k' ρ2,λσ2 H2 ⟨k',hk,z⟩=>⟨k',hk,z⟩,?_⟩
  exact hb S B _ σ' H1 o' (I'.grow s1) ⟨λρ3 σ3 H3 o3 I3 ⟨k',hk,w⟩=>⟨k',hk,ρ3,o3,I3,w⟩,s.rt,s.rl,s.nx,λρ3 σ3 H3 o3 I3 ⟨k',hk,w⟩=>⟨k',hk,ρ3,o3,I3,w⟩⟩
 | false=>
  rw[if_neg Bool.false_ne_true]at hb ⊢;exact s.nx ρ' σ' H1 o' (I'.grow s1) hb
end
section
variable {K:PySem.W.Frag}{ρ ρ' ρ1:List Sl}{m m':Bool}{t ta tb tc:TE}{d d':PyData}{ds es:List PyData}
def cap:Sl->Sl
 | .own ds=>.bor (.list ds)
 | .tr t=>.bor t.data
 | x=>x
def slC (ρ:List Sl)(n:Nat)(is:List Nat):List Sl:=List.replicate n .no++is.map λi=>cap ((ρ[i]?).getD .no)
theorem aY3 {n:Nat}{is:List Nat}{j:Nat}{x:Sl}(h:(slC ρ n is)[j]? = some x)(hx:x≠.no):n<=j/\∃i y,is[j-n]? = some i/\ρ[i]? = some y/\cap y=x:=by
 unfold slC at h;by_cases c:j<n
 ·rw[List.getElem?_append_left (by simpa using c),List.getElem?_replicate,if_pos c]at h
  exact absurd (Ab4 h).symm hx
 ·rw[List.getElem?_append_right (by simpa using c),List.length_replicate,Aa9]at h
  refine⟨by omega,?_⟩
  cases e:is[j-n]? with
  | none=>rw[e]at h;cases h
  | some i=>
   rw[e]at h;have h:cap ((ρ[i]?).getD .no)=x:=Ab4 h;cases e':ρ[i]? with
   | none=>rw[e']at h;exact absurd h.symm hx
   | some y=>rw[e']at h;exact⟨i,y,rfl,e',h⟩
theorem cB9 {n:Nat}{is:List Nat}{j:Nat}{x:Sl}(h:(slC ρ n is)[j]? = some x):x.os=false:=by
 cases x with
 | own ds=>
  obtain ⟨_,i,y,_,_,e⟩:=aY3 h (by simp)
  cases y <;> simp[cap]at e
 | tr t=>
  obtain ⟨_,i,y,_,_,e⟩:=aY3 h (by simp)
  cases y <;> simp[cap]at e
 | _=>rfl
theorem aF8 {n:Nat}{is:List Nat}{j:Nat}{x:Sl}{P:Prop}(h:(slC ρ n is)[j]? = some x)(hx:x.os=true):P:=by rw[cB9 h]at hx;cases hx
theorem Env.comp {S:Addr->Prop}{B H:Hp}{σ:St}{o:Nat->List Addr}(I:Env K S B H σ ρ o)(n:Nat)(is:List Nat):Env K (D2 ρ o S) H H (stC n is σ) (slC ρ n is) o:=by
 have st:∀(j:Nat) (i:Nat) v,n<=j->is[j-n]? = some i->σ[i]? = some v->(stC n is σ)[j]? = some v:=λj i v hj hi hv=>by
  unfold stC;rw[List.getElem?_append_right (by simpa using hj),List.length_replicate,Aa9,hi]
  simp[hv]
 have g:Same (hid (D2 ρ o S) H) (hid (D2 (slC ρ n is) o (D2 ρ o S)) H):=D4 (L2.Same.rf _) λb z _=>by
  rcases z with z | ⟨j,es,h,hy,_⟩
  ·exact z
  ·exact aF8 h hy
 refine⟨by simp[stC,slC],L2.Same.rf _,I.lists,λj es h hx=>aF8 h hx,λj k es fs h _ hx=>aF8 h hx,λj es h=>aF8 h rfl,λj d h=>?_,λj d h=>?_,λj t h=>aF8 h rfl⟩
 ·obtain ⟨hj,i,y,hi,hy,e⟩:=aY3 h (by simp)
  cases y with
  | val d'=>
   cases e
   obtain ⟨v,a,b⟩:=I.val i d hy;exact⟨v,st j i _ hj hi a,b.mono g⟩
  | _=>simp[cap]at e
 ·obtain ⟨hj,i,y,hi,hy,e⟩:=aY3 h (by simp)
  cases y with
  | bor d'=>
   cases e
   obtain ⟨v,a,b⟩:=I.bor i d hy;exact⟨v,st j i _ hj hi a,b⟩
  | own es=>
   cases e
   obtain ⟨p,hp,a,xs,b,c⟩:=I.own i es hy;exact⟨_,st j i _ hj hi a,.lst (SqL.of b) (c.mono X2)⟩
  | tr t=>
   cases e
   obtain ⟨_,v,a,b⟩:=I.tr i t hy;exact⟨_,st j i _ hj hi a,bG1 X2 (λ_ _ z=>z) X2 t (λ_ _=>rfl) b⟩
  | _=>simp[cap]at e
def bH3 (K:PySem.W.Frag)(m:Bool)(ρ:List Sl)(g:TG)(tt:TT)(te:TE)(d:PyData)(r:Option PyData):Prop:=
 ∃ρ',G K m g d ρ ρ'/\match r with
  | none=>T K tt ρ' false
  | some y=>T K tt ρ' true/\E K true te ρ' y
theorem T7 {wi:TI}{n:Nat}{is:List Nat}{g:TG}{tt:TT}{te:TE}(f:PyData->Option PyData)(hi:I K m wi ρ ds)(hl:ds.length<sizeLine)(body:∀d∈ds,bH3 K m (slC ρ n is) g tt te d (f d)):EF K (bI1 wi n is g tt te) ρ (ds.filterMap f):=λS B σ H o I0 Q q=>
 hi S B σ H o I0 _ λJ H1 s1 wk=>by
  have IC:=(I0.grow s1).comp n is
  generalize hS:D2 ρ o S=S' at IC wk q;have lists:∀b,S' b->∃xs,H1 b=some (.lst xs):=by rw[<- hS];exact(I0.grow s1).lists
  refine⟨λi k ys H2=>i<=ds.length/\k=ds.length-i/\Same H1 H2/\ys.length<=i/\Reps K (hid S' H2) ys ((ds.take i).filterMap f),⟨_,Nat.zero_le _,rfl,L2.Same.rf _,Aa7 _,by simpa using Reps.nil⟩,?_⟩
  rintro i k ys H2 ⟨hil,rfl,s2,hy,r⟩;refine⟨by omega,?_⟩
  have zH:Same (vw m S' H1) H2:=L2.Same.tr aH0 s2
  by_cases c:i=ds.length
  ·subst c;refine .inl ⟨wk.stop _ _ zH (Aa7 _),λD hD=>?_⟩
   rw[List.take_length]at r;exact q D ys _ (L2.Same.tr (L2.Same.tr s1 s2) (D5 hD)) (T8 (L2.Same.tr s1 s2) hD) C0 (aP1 (λb z=>by obtain ⟨xs,e⟩:=lists b z;exact⟨xs,s2 _ _ e⟩) hD r)
  ·have hlt:i<ds.length:=by omega
   have hd:ds[i]? = some ds[i]:=Aa2 hlt
   have take:(ds.take (i+1)).filterMap f=(ds.take i).filterMap f++(f ds[i]).toList:=by
    rw[List.take_succ_eq_append_getElem hlt,List.filterMap_append];cases hf:f ds[i] <;> simp[List.filterMap_cons,hf]
   obtain ⟨ρ',hg,hb⟩:=body ds[i] (List.getElem_mem hlt);refine .inr ⟨wk.go _ _ _ zH hd,λx H3 hx=>?_⟩
   obtain ⟨s3,hr⟩:=wk.yld _ _ _ _ _ zH hd hx;have I3:Env K S' H1 H3 (stC n is σ) (slC ρ n is) o:=IC.grow (L2.Same.tr s2 s3);have eqS:∀b,D2 (slC ρ n is) o S' b->S' b:=λb z=>by
    rcases z with z | ⟨j,es,h,hy,_⟩
    ·exact z
    ·exact aF8 h hy
   have rx:Rep K (vw m (D2 (slC ρ n is) o S') H3) x ds[i]:=by
    cases m with
    | false=>
     have:=hr (λ_=>False) λb z=>z.elim
     rw[bQ6]at this;exact this
    | true=>
     refine hr _ λb z=>?_
     have z':=eqS b z
     obtain ⟨xs,e⟩:=lists b z';exact⟨by unfold vw hid;exact if_pos z',by rw[s2 _ _ e];simp⟩
   refine hg.2 S' H1 _ H3 o I3 x rx _ λσ4 I4=>?_
   cases hf:f ds[i] with
   | none=>
    rw[hf]at hb take;refine hb S' H1 σ4 H3 o I4 _ λH5 s5=>?_
    rw[if_neg Bool.false_ne_true];refine⟨_,by omega,hlt,rfl,L2.Same.tr s2 (L2.Same.tr s3 s5),by omega,?_⟩
    rw[take];simpa using r.mono (K1 (L2.Same.tr s3 s5))
   | some y=>
    rw[hf]at hb take;refine hb.1 S' H1 σ4 H3 o I4 _ λH5 s5=>?_
    rw[if_pos rfl];refine hb.2 S' H1 σ4 H5 o (I4.grow s5) _ λv H6 s6 rv=>?_
    have s36:=L2.Same.tr s3 (L2.Same.tr s5 s6)
    refine⟨_,by omega,hlt,rfl,L2.Same.tr s2 s36,by simp;omega,?_⟩
    rw[take];refine(r.mono (K1 s36)).append (.cons (rv.mono (D4 (L2.Same.rf _) λb z _=>.inl z)) .nil)
theorem aK7:T K aV9 ρ true:=λS B σ H o I Q q=>q H (L2.Same.rf _)
def sl0 (n:Nat)(ds:List PyData):List Sl:=ds.map .val++List.replicate (n-ds.length) .no
theorem env0 {S:Addr->Prop}{H:Hp}{N:List Str}{vs:List V}(hS:∀b,S b->∃xs,H b=some (.lst xs))(r:Reps K (hid S H) vs ds):Env K S H H (L2.W5 N vs) (sl0 N.length ds) (λ_=>[]):=by
 have nov:∀(j:Nat) (x:Sl),(sl0 N.length ds)[j]? = some x->x=.no\/∃d,ds[j]? = some d/\x=.val d:=λj x h=>by
  unfold sl0 at h;by_cases c:j<ds.length
  ·rw[List.getElem?_append_left (by simpa using c),Aa9,Aa2 c]at h
   exact .inr ⟨_,Aa2 c,(Ab4 h).symm⟩
  ·rw[List.getElem?_append_right (by simpa using c),List.getElem?_replicate]at h
   split at h
   ·exact .inl (Ab4 h).symm
   ·cases h
 have no1:∀{P:Prop} (j:Nat) (x:Sl),(sl0 N.length ds)[j]? = some x->x.os=true->P:=λj x h hx=>by
  rcases nov j _ h with e | ⟨d,_,e⟩ <;> rw[e]at hx <;> cases hx
 have g:Same (hid S H) (hid (D2 (sl0 N.length ds) (λ_=>[]) S) H):=D4 (L2.Same.rf _) λb z _=>by
  rcases z with z | ⟨j,es,h,hy,_⟩
  ·exact z
  ·exact no1 j es h hy
 refine⟨?_,L2.Same.rf _,hS,λj es h hx=>no1 j es h hx,λj k es fs h _ hx=>no1 j es h hx,λj es h=>no1 j _ h rfl,λj d h=>?_,λj d h=>?_,λj es h=>no1 j _ h rfl⟩
 ·unfold L2.W5 sl0;simp[r.length]
 ·rcases nov j _ h with e | ⟨d',h',e⟩
  ·cases e
  ·cases e
   obtain ⟨v,a,b⟩:=r.get' h';refine⟨v,?_,b.mono g⟩;unfold L2.W5
   have:=(Ab0.mp a).1
   rw[List.getElem?_append_left (by simpa using this),Aa9,a];rfl
 ·rcases nov j _ h with e | ⟨d',_,e⟩ <;> cases e
theorem M1 {t:TS}{N:List Str}{vs:List V}{S:Addr->Prop}{H:Hp}{Q:VK}(hS:∀b,S b->∃xs,H b=some (.lst xs))(r:Reps K (hid S H) vs ds)(w:W K t (sl0 N.length ds) {nx:=λ_=>d=.none,rt:=λe=>e=d})
  (k:∀v H',Same H H'->Rep K (hid S H') v d->Q v H'):t {nx:=λ_ H'=>Q .non H',rt:=Q} (L2.W5 N vs) H:=
 w S H _ _ H _ (env0 hS r) ⟨λρ' σ' H' o' I' z=>k _ H' I'.base (by rw[z];exact .non),λv e H' s r' z=>k v H' s (by rw[<- z];exact r'),λ_ _ _ _ _ _ _ _ z=>z.elim,λ_ _ _ _ _ z=>z.elim,λ_ _ _ _ _ z=>z.elim⟩
theorem bW3 {t:TS}{N:List Str}{vs:List V}{S:Addr->Prop}{H:Hp}{Q:VK}(hS:∀b,S b->∃xs,H b=some (.lst xs))(r:Reps K (hid S H) vs ds)(w:W K t (sl0 N.length ds) {nx:=λ_=>False,rl:=λe=>e=es})
  (k:∀p xs H',Same H H'->H p=none->H' p=some (.lst xs)->Reps K (hid (λb=>S b\/b=p) H') xs es->Q (.ref p) H'):t {nx:=λ_ H'=>Q .non H',rt:=Q} (L2.W5 N vs) H:=
 w S H _ _ H _ (env0 hS r) ⟨λρ' σ' H' o' I' z=>z.elim,λv e H' s r' z=>z.elim,λp xs es' H' s n e r' z=>k p xs H' s n e (by rw[<- z];exact r'),λ_ _ _ _ _ z=>z.elim,λ_ _ _ _ _ z=>z.elim⟩
end
end LV
namespace L2
open PySem PySem.Spec PyProof.Rows
section
variable {X:Cx}
def CMulB (i j:Int):Prop:=i.natAbs<2^512/\j.natAbs<2^512
theorem bN9 {k:Int}(h:k.natAbs<2^512):Builtin.Int.intBits k<=2^20:=by
 unfold Builtin.Int.intBits;split
 ·exact Nat.zero_le _
 ·have:k.natAbs.log2<512:=by
   rcases Nat.eq_zero_or_pos k.natAbs with h0 | hp
   ·rw[h0];decide
   ·exact(Nat.log2_lt (Nat.ne_of_gt hp)).mpr h
  omega
theorem CMulB.ok {i j:Int}(h:CMulB i j):IntMulOk i j:=.of_bits (bN9 h.1) (bN9 h.2)
theorem aD1:OpR X (binaryOp .Mult) (rI CMulB λi j=>.int (i*j)):=opI λ_ _ _ _ _ _ _ hc q=>mul_int q hc.ok
def bA4:List String:=["int", "bool", "str", "list", "tuple"]
def cN8 (K:PySem.W.Frag)(H:Hp)(T:String):V->Bool->Prop
 | .int _,b=>b=(T == "int")
 | .bl _,b=>b=(T == "int" || T == "bool")
 | .str _,b=>b=(T == "str")
 | .non,b=>b=false
 | .ref p,b=>(∃xs,SqL K H p xs/\b=(T == "list"))\/∃xs,SqT K H p xs/\b=(T == "tuple")
 | _,_=>False
theorem J9 {T:String}(h:T∈bA4):typeOf (.type T)=pure (.type "type"):=by
 simp only[bA4,Aa1,Ac2,or_false]at h;rcases h with rfl | rfl | rfl | rfl | rfl
 ·exact meta_int
 ·exact meta_bool
 ·exact meta_str
 ·exact meta_list
 ·exact meta_tuple
theorem aF1 {x:Value}{Tx T:String}{s:Shared}{A:Around}{P:Program}{w:World}{E:Value->Shared->Prop}{Q:Value->Shared->Prop}(h:T∈bA4)(hx:s.TypeIs x Tx)(hs:isSubtype (.type Tx) (.type T)=pure true)(q:Q (.bool true) s) :
  wpAny (model P w) A (call (.builtin "isinstance") [x,.type T]) Q E s:=call_isinstance (isinstance_true (J9 h) hs) ⟨hx,q⟩
theorem aN0:X0 X (.builtin "isinstance") (λxs H Q=>∃x T b,xs=[x,.ty T]/\T∈bA4/\cN8 X.K H T x b/\Q (.bl b) H):=by
 intro pins s σ H xs us Q I r h;obtain ⟨x,T,b,rfl,hT,hv,q⟩:=h;cases r with
 | cons r1 r2=>
  cases r2 with
  | cons r3 r4=>
   cases r4;cases r3
   have ft:EP X pins σ Q (.bool b) s:=⟨.bl b,H,I,rfl,q⟩
   have ff:EP X pins σ Q (.bool b) {s with toks:=s.toks+1}:=⟨.bl b,H,I.tok _,rfl,q⟩
   have hT':=hT
   simp only[bA4,Aa1,Ac2,or_false]at hT';cases x with
   | int i=>
    obtain ⟨t,rfl⟩:=r1;cases hv;rcases hT' with rfl | rfl | rfl | rfl | rfl
    ·exact aF1 hT (typeIs_int _ _ _) (by rw[isSubtype_type];kernel_rfl) ft
    all_goals exact call_isinstance (isinstance_false_int (by decide) (J9 hT) (by rw[isSubtype_type];kernel_rfl)) ff
   | bl k=>
    cases r1
    cases hv
    rcases hT' with rfl | rfl | rfl | rfl | rfl
    ·exact aF1 hT (PySem.typeIs_bool _ _) (by rw[isSubtype_type];kernel_rfl) ft
    ·exact aF1 hT (PySem.typeIs_bool _ _) (by rw[isSubtype_type];kernel_rfl) ft
    all_goals exact call_isinstance (isinstance_false_bool (by decide) (J9 hT) (by rw[isSubtype_type];kernel_rfl)) ff
   | str z=>
    obtain ⟨t,rfl⟩:=r1;cases hv;rcases hT' with rfl | rfl | rfl | rfl | rfl
    ·exact call_isinstance (isinstance_false_str (by decide) (J9 hT) (by rw[isSubtype_type];kernel_rfl)) ff
    ·exact call_isinstance (isinstance_false_str (by decide) (J9 hT) (by rw[isSubtype_type];kernel_rfl)) ff
    ·exact aF1 hT (typeIs_str _ _ _) (by rw[isSubtype_type];kernel_rfl) ft
    all_goals exact call_isinstance (isinstance_false_str (by decide) (J9 hT) (by rw[isSubtype_type];kernel_rfl)) ff
   | non=>
    cases r1
    cases hv
    rcases hT' with rfl | rfl | rfl | rfl | rfl
    all_goals exact call_isinstance (isinstance_false_none (by decide) (J9 hT) (by rw[isSubtype_type];kernel_rfl)) ff
   | ref p=>
    cases r1
    rcases hv with ⟨ys,hq,rfl⟩ | ⟨ys,hq,rfl⟩
    ·obtain ⟨its,rv,⟨o,n,e,c,_,_⟩,_⟩:=I.list hq;rcases hT' with rfl | rfl | rfl | rfl | rfl
     ·exact call_isinstance (isinstance_false_list (by decide) (J9 hT) (by rw[isSubtype_type];kernel_rfl)) ⟨⟨o,e,c⟩,ff⟩
     ·exact call_isinstance (isinstance_false_list (by decide) (J9 hT) (by rw[isSubtype_type];kernel_rfl)) ⟨⟨o,e,c⟩,ff⟩
     ·exact call_isinstance (isinstance_false_list (by decide) (J9 hT) (by rw[isSubtype_type];kernel_rfl)) ⟨⟨o,e,c⟩,ff⟩
     ·exact aF1 hT (⟨o,e,c⟩:s.TypeIs (.ref p) _) (by rw[isSubtype_type];kernel_rfl) ft
     ·exact call_isinstance (isinstance_false_list (by decide) (J9 hT) (by rw[isSubtype_type];kernel_rfl)) ⟨⟨o,e,c⟩,ff⟩
    ·obtain ⟨its,rv,⟨o,e,c,n,d⟩,_⟩:=I.tuple hq;rcases hT' with rfl | rfl | rfl | rfl | rfl
     ·exact call_isinstance (isinstance_false_tuple (by decide) (J9 hT) (by rw[isSubtype_type];kernel_rfl)) ⟨⟨o,e,c⟩,ff⟩
     ·exact call_isinstance (isinstance_false_tuple (by decide) (J9 hT) (by rw[isSubtype_type];kernel_rfl)) ⟨⟨o,e,c⟩,ff⟩
     ·exact call_isinstance (isinstance_false_tuple (by decide) (J9 hT) (by rw[isSubtype_type];kernel_rfl)) ⟨⟨o,e,c⟩,ff⟩
     ·exact call_isinstance (isinstance_false_tuple (by decide) (J9 hT) (by rw[isSubtype_type];kernel_rfl)) ⟨⟨o,e,c⟩,ff⟩
     ·exact aF1 hT (⟨o,e,c⟩:s.TypeIs (.ref p) _) (by rw[isSubtype_type];kernel_rfl) ft
   | _=>exact hv.elim
end
theorem bN3 {X:Cx}{x:Str}{T:String}{pos:Pos}(hg:Gl X x)(hm:X.mg x=none)(hv:bootBuiltins x=some (.type T))(hn:x≠"__name__" := by decide)(hd:(x==("__debug__" : Str))=false:=by decide):PE X (.Name x pos) (tC (.ty T)):=cF1 (v:=.ty T) hg hm hv rfl hn hd
theorem aU9 {i:Nat}:∀v (σ:St) H Q Q',(∀σ' H',Q σ' H'->Q' σ' H')->N2 i v σ H Q->N2 i v σ H Q':=λ_ _ _ _ _ h q=>h _ _ q
theorem aS3:∀v (σ:St) H Q Q',(∀σ' H',Q σ' H'->Q' σ' H')->bE9 v σ H Q->bE9 v σ H Q':=λ_ _ _ _ _ h q=>⟨q.1,h _ _ q.2⟩
theorem bE5 {t:TG}{u:TGs}(a:∀v (σ:St) H Q Q',(∀σ' H',Q σ' H'->Q' σ' H')->t v σ H Q->t v σ H Q')(b:∀v (σ:St) H Q Q',(∀σ' H',Q σ' H'->Q' σ' H')->u v σ H Q->u v σ H Q') :
  ∀v (σ:St) H Q Q',(∀σ' H',Q σ' H'->Q' σ' H')->aE2 t u v σ H Q->aE2 t u v σ H Q':=λ_ _ _ _ _ h ⟨v,r,e,q⟩=>⟨v,r,e,a _ _ _ _ _ (λ_ _ z=>b _ _ _ _ _ h z) q⟩
theorem cW7 {K:PySem.W.Frag}{i j k n:Nat}(h:i<n)(h':j<n):aK1 n (bU6 K k (aE2 (N2 i) (aE2 (N2 j) bE9))):=
 cN3 (bK4 aU9 (bE5 aU9 aS3) (S0 h) (bK4 aU9 aS3 (S0 h') cK3))
def AllP {α:Type}(p:α->Prop):List α->Prop
 | []=>True
 | a::l=>p a/\AllP p l
theorem AllP.mem {α:Type}{p:α->Prop}:∀{l:List α},AllP p l->∀a∈l,p a
 | _::_,h,a,ha=>(Aa1.mp ha).elim (λe=>e▸h.1) λz=>AllP.mem h.2 a z
theorem M4 {β:Type}{x:Str}{v:β}:∀{l:List (Str×β)},l.lookup x=some v->(x,v)∈l
 | [],h=>by cases h
 | (y,u)::l,h=>by
  rw[List.lookup_cons]at h;by_cases e:x==y
  ·rw[e]at h;have e':x=y:=eq_of_beq e;cases h;subst e';exact List.mem_cons_self
  ·have e1:(x==y)=false:=by simpa using e
   rw[e1]at h;exact Ad4 _ (M4 h)
theorem CScope.of {X:Cx}{scope:Scope}{cl:List (Str×Addr)}{T N':List Str}{is:List Nat}(clos:closureFor scope X.env=pure cl)(kind:scope.kind=.function)
  (c1:scope.names.all (λy=>y.2 != .cell&&(y.2 != .local||scope.names.lookup y.1==some .local))=true) (c3:AllP (λp=>X.env.cells.lookup p.1=some p.2) cl)
  (c4:(relabel scope X.env).names.all (λy=>(y.2 != .cell&&y.2 != .free)||(cl.lookup y.1).isSome)=true) (c5:N'=T++is.map λ(i:Nat)=>((X.N[i]?).getD Str.empty:Str))
  (c6:is.all (λi=>decide (i<X.N.length))=true) (c7:AllP (λi=>∃x,X.N[i]? = some x/\((relabel scope X.env).names.lookup x=some .cell\/(relabel scope X.env).names.lookup x=some .free)/\(X.env.kindOf x=some .cell\/X.env.kindOf x=some .free)) is):CScope X scope cl T is N' where
 clos:=clos
 cell:=λy hy e=>by
  have:=Ac9.mp c1 y hy
  rw[e]at this;simp at this
 kind:=kind
 names:=λy hy e=>by
  have:=Ac9.mp c1 y hy
  rw[e]at this;simp at this;exact this
 cap:=λx c h=>c3.mem (x,c) (M4 h)
 has:=λx h=>by
  have go:∀k,(relabel scope X.env).names.lookup x=some k->k=.cell\/k=.free->∃c,cl.lookup x=some c:=λk e hk=>by
   have:=Ac9.mp c4 (x,k) (M4 e)
   rcases hk with rfl | rfl <;> exact Option.isSome_iff_exists.mp this
  rcases h with h | h
  ·exact go _ h (.inl rfl)
  ·exact go _ h (.inr rfl)
 N:=c5
 lt:=λi hi=>of_decide_eq_true (Ac9.mp c6 i hi)
 capt:=λi hi x e=>by
  obtain ⟨y,e',h1,h2⟩:=c7.mem i hi;rw[e]at e';cases e';exact⟨h1,h2⟩
section
variable {X:Cx}
theorem ixK (K:PySem.W.Frag)(h:X.K=K:=by rfl):IxR X (rIx K):=h▸C2
theorem aN8 (K:PySem.W.Frag)(h:X.K=K:=by rfl):X0 X (.builtin "len") (λxs H Q=>∃p ys,xs=[.ref p]/\(SqL K H p ys\/SqT K H p ys)/\Q (.int ys.length) H):=h▸L4
theorem cR2 (K:PySem.W.Frag)(h:X.K=K:=by rfl):X0 X (.builtin "isinstance") (λxs H Q=>∃x T b,xs=[x,.ty T]/\T∈bA4/\cN8 K H T x b/\Q (.bl b) H):=h▸aN0
theorem cK4 (K:PySem.W.Frag)(h:X.K=K:=by rfl):SlR X (bS1 K):=h▸aY2
theorem bW1 (K:PySem.W.Frag)(h:X.K=K:=by rfl):X0 X (.type "tuple") (λxs H Q=>∃p ys,xs=[.ref p]/\((SqL K H p ys/\∀l,H l=none->Q (.ref l) (upd H l (.tup ys)))\/(SqT K H p ys/\Q (.ref p) H))):=h▸P5
theorem cS3 (K:PySem.W.Frag)(h:X.K=K:=by rfl):X0 X (.type "list") (λxs H Q=>∃p ys,xs=[.ref p]/\(SqL K H p ys\/SqT K H p ys)/\∀l,H l=none->Q (.ref l) (upd H l (.lst ys))):=h▸aX3
end
end L2
namespace LV
open PySem L2
section
variable {K:PySem.W.Frag}{ρ ρ' ρ1:List Sl}{m m':Bool}{t ta tb tc:TE}{d d':PyData}{ds es:List PyData}
theorem aR9 {i j:Int}(ha:E K false ta ρ (.int i))(hb:E K false tb ρ (.int j)):E K m (tOp rEq ta tb) ρ (.bool (decide (i=j))):=
 bB4 ha hb λH Q q=>⟨rfl,by
  have:decide (V.int i=V.int j)=decide (i=j):=by simp
  rw[this];exact q _ λ_=>.bl _⟩
theorem bI5 {i j:Int}(ha:E K false ta ρ (.int i))(hb:E K false tb ρ (.int j)):E K m (tOp rNe ta tb) ρ (.bool (!decide (i=j))):=
 bB4 ha hb λH Q q=>⟨rfl,by
  have:decide (V.int i=V.int j)=decide (i=j):=by simp
  rw[this];exact q _ λ_=>.bl _⟩
theorem aK9 {i:Int}(ha:E K false ta ρ (.int i)):E K m (tUn (rU λi=>.int (-i)) ta) ρ (.int (-i)):=E.bor (E.imm (m:=false) λS B σ H o I Q q=>ha S B σ H o I _ λv H1 s1 r=>by
 cases r
 exact⟨i,rfl,q _ H1 s1 (.int _)⟩)
theorem cL0 {r:List V->Hp->VK->Prop}{t:TA}(ha:A K false t ρ ds)(hr:∀(H:Hp) (vs:List V) (Q:VK),Reps K H vs ds->(∀v,(∀H,Rep K H v d)->Q v H)->r vs H Q):E K m (tCB r t) ρ d:=λS B σ H o I Q q=>
 ha S B σ H o I _ λvs H1 s1 rs=>hr H1 vs Q rs λv rv=>q v H1 s1 (rv _)
theorem S8 {t:TA}(ha:A K false t ρ [d])(h:sq d=some ds:=by rfl):E K m (tCB (λxs H Q=>∃p ys,xs=[.ref p]/\(SqL K H p ys\/SqT K H p ys)/\Q (.int ys.length) H) t) ρ (.int ds.length):=cL0 ha λH vs Q r q=>by
 cases r with
 | cons a b=>
  cases b
  cases a with
  | lst s r=>cases h;exact⟨_,_,rfl,.inl s,by rw[r.length];exact q _ λ_=>.int _⟩
  | tup s r=>cases h;exact⟨_,_,rfl,.inr s,by rw[r.length];exact q _ λ_=>.int _⟩
  | _=>cases h
def cS6 (T:String):PyData->Bool
 | .int _=>T == "int"
 | .bool _=>T == "int" || T == "bool"
 | .str _=>T == "str"
 | .list _=>T == "list"
 | .tuple _=>T == "tuple"
 | _=>false
def xNo:PyData->Bool
 | .dict _=>false
 | _=>true
theorem bJ5 {T:String}(ha:E K false ta ρ d)(hT:T∈bA4:=by decide)(hn:xNo d=true:=by first | rfl | assumption):E K m (tCB (λxs H Q=>∃x T b,xs=[x,.ty T]/\T∈bA4/\cN8 K H T x b/\Q (.bl b) H) (E1 ta (E1 (tC (.ty T)) S6))) ρ (.bool (cS6 T d)):=E.bor (E.imm (m:=false) λS B σ H o I Q q=>ha S B σ H o I _ λv H1 s1 r=>by
 refine⟨v,T,cS6 T d,rfl,hT,?_,q _ H1 s1 (.bl _)⟩;cases r with
 | lst s r=>exact .inl ⟨_,s,rfl⟩
 | tup s r=>exact .inr ⟨_,s,rfl⟩
 | exc e=>exact absurd hn (by simp[xNo])
 | _=>rfl)
theorem cF3 {r r':R2}{i j k:Int}{g g':Int->Int->Bool}(ha:E K false ta ρ (.int i))(hb:E K false tb ρ (.int j))(hc:E K false tc ρ (.int k)):E K m (bG0 (rI0 λi j=>.bl (g i j)) (rI0 λi j=>.bl (g' i j)) ta tb tc) ρ (.bool (g i j&&g' j k)):=
 E.bor (E.imm (m:=false) λS B σ H o I Q q=>ha S B σ H o I _ λv H1 s1 r1=>hb S B σ H1 o (I.grow s1) _ λu H2 s2 r2=>by
  cases r1;cases r2
  refine⟨i,j,rfl,rfl,g i j,rfl,?_⟩;cases h:g i j with
  | false=>rw[if_neg Bool.false_ne_true];exact q _ H2 (L2.Same.tr s1 s2) (by rw[h];exact .bl _)
  | true=>
   rw[if_pos rfl];refine hc S B σ H2 o ((I.grow s1).grow s2) _ λw H3 s3 r3=>?_
   cases r3
   refine⟨j,k,rfl,rfl,q _ H3 (L2.Same.tr s1 (L2.Same.tr s2 s3)) ?_⟩;rw[h,Bool.true_and];exact .bl _)
end
end LV
namespace LV
open PySem PySem.Spec PyProof.Rows L2
section
variable {X:Cx}{pins:List (Addr×Obj)}{σ:L2.St}{H:Hp}{s:Shared}
mutual
theorem S9 (I:Inv X pins σ H s):∀(d:PyData) {v:V} {u:Value},d.canLay0=true->Rep X.K H v d->RelV v u->∃as,Reads s.heap u d as
 | .none,_,_,_,r,q=>by cases r;cases q;exact⟨_,.none⟩
 | .bool _,_,_,_,r,q=>by cases r;cases q;exact⟨_,.bool _⟩
 | .int _,_,_,_,r,q=>by cases r;obtain ⟨t,rfl⟩:=q;exact⟨_,.int _ _⟩
 | .str _,_,_,_,r,q=>by cases r;obtain ⟨t,rfl⟩:=q;exact⟨_,.str _ _⟩
 | .tuple ds,_,_,c,r,q=>by
  cases r with
  | tup sq rs=>
   cases q
   obtain ⟨its,rv,⟨o,e,c',n,d⟩,_⟩:=I.tuple sq;obtain ⟨as,ra⟩:=aA2 I ds (by simpa[PyData.canLay0]using c) rs rv
   exact⟨_,.tuple e c' d (by simpa using ra)⟩
 | .list ds,_,_,c,r,q=>by
  cases r with
  | lst sq rs=>
   cases q
   obtain ⟨its,rv,⟨o,n,e,c',_,d⟩,_⟩:=I.list sq;obtain ⟨as,ra⟩:=aA2 I ds (by simpa[PyData.canLay0]using c) rs rv
   exact⟨_,.list e c' d (by simpa using ra)⟩
 | .dict _,_,_,c,_,_=>by simp[PyData.canLay0]at c
theorem aA2 (I:Inv X pins σ H s):∀(ds:List PyData) {vs:List V} {us:List Value},PyData.canLayAll0 ds=true->Reps X.K H vs ds->Vals vs us->∃as,ReadsAll s.heap us ds as
 | [],_,_,_,r,q=>by cases r;cases q;exact⟨_,.nil⟩
 | d::ds,_,_,c,r,q=>by
  have c':d.canLay0=true/\PyData.canLayAll0 ds=true:=by simpa[PyData.canLayAll0]using c
  cases r with
  | cons a b=>
   cases q with
   | cons a' b'=>
    obtain ⟨as,h1⟩:=S9 I d c'.1 a a';obtain ⟨bs,h2⟩:=aA2 I ds c'.2 b b';exact⟨_,.cons h1 h2⟩
end
def Fit (d:PyData):Prop:=d.canLay0=true/\d.depth<=32
def cP6 (K:PySem.W.Frag)(neg:Bool):R2:=λx y H Q=>∃d e,Rep K H x d/\Rep K H y e/\Fit d/\Fit e/\Q (.bl (if neg then !PyData.eqv d e else PyData.eqv d e)) H
def aW0 (K:PySem.W.Frag)(neg:Bool):R2:=λx y H Q=>∃d e ds,Rep K H x d/\Rep K H y e/\sq e=some ds/\Fit d/\Fit e/\Q (.bl (if neg then !ds.any λz=>PyData.eqv z d else ds.any λz=>PyData.eqv z d)) H
theorem aE9 (K:PySem.W.Frag){k:Nat}(hr:Room k X.A)(h:X.K=K:=by rfl):OpR X (compareOp .NotEq) (cP6 K true):=by
 subst h;intro pins s σ H x y v u Q I rx ry ⟨d,e,hd,he,fd,fe,q⟩;obtain ⟨as,ra⟩:=S9 I d fd.1 hd rx;obtain ⟨bs,rb⟩:=S9 I e fe.1 he ry;exact SeqAt.compareNe_reads ra rb fd.1 fe.1 (by have:=hr.un;have:=fd.2;omega) ⟨.bl _,H,I,rfl,q⟩
theorem aI8 {ds:List PyData}(h:Fit (.list ds)\/Fit (.tuple ds)):PyData.canLayAll0 ds=true/\PyData.depthAll ds<=32:=by
 rcases h with ⟨a,b⟩ | ⟨a,b⟩ <;> simp only[PyData.canLay0,PyData.depth]at a b <;> exact⟨a,by omega⟩
theorem aN7 (K:PySem.W.Frag){k:Nat}(hr:Room k X.A)(h:X.K=K:=by rfl):OpR X (compareOp .In) (aW0 K false):=by
 subst h;intro pins s σ H x y v u Q I rx ry ⟨d,e,ds,hd,he,hs,fd,fe,q⟩;obtain ⟨as,ra⟩:=S9 I d fd.1 hd rx;obtain ⟨bs,rb⟩:=S9 I e fe.1 he ry;have fin:EP X pins σ Q (.bool (ds.any λz=>PyData.eqv z d)) s:=⟨.bl _,H,I,rfl,q⟩
 cases e with
 | list es=>
  cases hs
  have:=aI8 (.inl fe)
  exact SeqAt.in_list_reads rb ra this.1 fd.1 (by have:=hr.un;have:=fd.2;omega) fin
 | tuple es=>
  cases hs
  have:=aI8 (.inr fe)
  exact SeqAt.in_tuple_reads rb ra this.1 fd.1 (by have:=hr.un;have:=fd.2;omega) fin
 | _=>cases hs
theorem aS1 (K:PySem.W.Frag){k:Nat}(hr:Room k X.A)(h:X.K=K:=by rfl):OpR X (compareOp .NotIn) (aW0 K true):=by
 subst h;intro pins s σ H x y v u Q I rx ry ⟨d,e,ds,hd,he,hs,fd,fe,q⟩;obtain ⟨as,ra⟩:=S9 I d fd.1 hd rx;obtain ⟨bs,rb⟩:=S9 I e fe.1 he ry;have fin:EP X pins σ Q (.bool (!ds.any λz=>PyData.eqv z d)) s:=⟨.bl _,H,I,rfl,q⟩
 cases e with
 | list es=>
  cases hs
  have:=aI8 (.inl fe)
  exact SeqAt.notIn_list_reads rb ra this.1 fd.1 (by have:=hr.un;have:=fd.2;omega) fin
 | tuple es=>
  cases hs
  have:=aI8 (.inr fe)
  exact SeqAt.notIn_tuple_reads rb ra this.1 fd.1 (by have:=hr.un;have:=fd.2;omega) fin
 | _=>cases hs
theorem T4:∀{l:List Int} {its:List Value},Vals (l.map V.int) its->IntsAre its l
 | [],_,r=>by cases r;exact .nil
 | i::l,_,r=>by
  cases r with
  | cons a b=>
   obtain ⟨t,rfl⟩:=a;exact .cons _ _ (T4 b)
theorem bH0 {k:Int}:∀{l:List Int} {m:Nat} (hm:m<l.length),m<l.idxOf k->l[m]≠k
 | [],m,hm,_=>by simp at hm
 | a::l,m,hm,h=>by
  rw[List.idxOf_cons]at h;by_cases e:a=k
  ·subst e;simp at h
  ·have e1:(a==k)=false:=by simpa using e
   rw[e1]at h;simp only[cond_false]at h;cases m with
   | zero=>simpa using e
   | succ m=>exact bH0 (l:=l) (m:=m) (by simpa using hm) (by omega)
theorem bW6 {A:Around}{P:Program}{w:World}{E:Value->Shared->Prop}{l:Addr}{vs:List Value}{ns:List Int}{Q:Value->Shared->Prop}(hh:A.handled=none)(hl:s.heap.IsList l vs.toArray)(hi:IntsAre vs ns)(hne:0<ns.length)
  (h:∀h' M (t:Tok) tk,(∀b o,s.heap.get? b=some o->h'.get? b=some o)->M∈ns->(∀a,a∈ns->M<=a)->Q (.int M t) {s with heap:=h',toks:=tk}):wpAny (model P w) A (call (.builtin "min") [.ref l]) Q E s:=by
 obtain ⟨xs,e⟩:=hi.allInts.items;have hns:ns=xs.toList.map (·.1):=by rw[<- hi.numsOf,<- nums_intItems,<- e]
 have hsz:0<xs.size:=by
  have h3:=hne;rw[hns,Aa3,Array.length_toList]at h3;exact h3
 rw[e]at hl;refine min_intList hh hl hsz λv h' tk hv hk=>?_
 obtain ⟨t,rfl⟩:=intItems_at hv;obtain ⟨h1,h2⟩:=argBest_lt (numAt xs) (xs.size-1);refine h _ _ t tk hk ?_ λa ha=>?_
 ·rw[hns,numAt_eq];exact getD_mem (by rw[Aa3,Array.length_toList];omega)
 ·rw[hns]at ha;obtain ⟨j,hj,rfl⟩:=mem_getD ha;rw[Aa3,Array.length_toList]at hj;rw[<- numAt_eq];exact h2 j (by omega)
theorem bP1 (K:PySem.W.Frag)(hc:X.calm=true)(h:X.K=K:=by rfl):X0 X (.builtin "min") (λxs H Q=>∃(p:Addr) (l:List Int),xs=[.ref p]/\SqL K H p (l.map V.int)/\l≠[]/\∀M,M∈l->(∀a∈l,M<=a)->Q (.int M) H):=by
 subst h;intro pins s σ H xs us Q I r ⟨p,l,e,hq,hne,q⟩;subst e;obtain ⟨u,rfl,rx⟩:=v7 r;cases rx;obtain ⟨its,rv,pl,_⟩:=I.list hq;exact bW6 (I.ok.hd hc) pl.isList (T4 rv) (List.length_pos_iff.mpr hne) λh' M t tk hk h1 h2=>⟨.int M,H,I.kept hk,⟨_,rfl⟩,q M h1 h2⟩
theorem aQ7 (K:PySem.W.Frag)(h:X.K=K:=by rfl):MtR X "list.index" (λx xs H Q=>∃(p:Addr) (l:List Int) (k:Int),x=.ref p/\xs=[.int k]/\SqL K H p (l.map V.int)/\k∈l/\Q (.int (l.idxOf k)) H):=by
 subst h;intro pins s σ H x xs v us Q I rx rv ⟨p,l,k,e1,e2,hq,hk,q⟩;subst e1;subst e2;cases rx;obtain ⟨u,rfl,t,rfl⟩:=v7 rv;obtain ⟨its,r,⟨o,n,e,c,dd,d⟩,hz⟩:=I.list hq;obtain ⟨oc,od,odata,osl⟩:=o;dsimp only at c dd d;subst c;subst dd;subst d;have hl:=r.length;rw[Aa3]at hl;have hj:l.idxOf k<l.length:=List.idxOf_lt_length_iff.mpr hk;have at_:∀(j:Nat) (hj:j<its.toArray.size),∃t,its.toArray[j]=Value.int (l[j]'(by simpa[hl]using hj)) t:=λj hj=>by
  have hj':j<l.length:=by simpa[hl]using hj
  obtain ⟨u,h1,t,rfl⟩:=r.get (i:=j) (x:=.int l[j]) (by rw[Aa9,Aa2 hj'];rfl)
  have:=(Ab0.mp h1).2
  exact⟨t,by simpa using this⟩
 have hz':=aF9
 rw[Aa3]at hz;refine call_meets F.slot_list_index ⟨_,e,rfl⟩ F.entry_list_index (F.args_list_index_2 _ _) (SeqAt.list_indexAt p its.toArray n none osl (.int k t) (λy=>match y with | .int i _=>i==k | _=>false) (l.idxOf k) (by simpa[<- hl]using hj) (by omega) ?_ ?_) ⟨e,λy hy=>?_,?_⟩
 ·obtain ⟨t',e'⟩:=at_ (l.idxOf k) (by simpa[<- hl]using hj)
  rw[e'];simp
 ·intro m hm hlt;obtain ⟨t',e'⟩:=at_ m hm;rw[e']
  have:l[m]'(by simpa[hl]using hm)≠k:=λz=>by
   have h1:m<l.length:=by simpa[hl]using hm
   exact bH0 h1 hlt z
  simpa using this
 ·obtain ⟨j,hj,rfl⟩:=Array.mem_iff_getElem.mp hy;obtain ⟨t',e'⟩:=at_ j hj;rw[e'];exact SeqAt.EqAt.int_int _ _ _ _
 ·exact⟨.int _,H,I.tok _,⟨_,rfl⟩,q⟩
end
theorem aU4:∀{vs:List V} {us:List Value},vs.length=us.length->(∀(j:Nat) v u,vs[j]? = some v->us[j]? = some u->RelV v u)->Vals vs us
 | [],[],_,_=>.nil
 | v::vs,u::us,hl,h=>.cons (h 0 v u rfl rfl) (aU4 (by simpa using hl) λj v u e1 e2=>h (j+1) v u (by simpa using e1) (by simpa using e2))
 | [],_::_,hl,_=>by simp at hl
 | _::_,[],hl,_=>by simp at hl
section
variable {X:Cx}
def cH9 (ta:TA):TE:=λσ H Q=>ta σ H λvs H1=>∃i j:Int,vs=[.int i,.int j]/\∀p,H1 p=none->Q (.ref p) (upd H1 p (.rng i j))
theorem cB0 {a b:Expr}{ta:TA}{p pos:Pos}(hg:Gl X "range")(hm:X.mg "range" = none)(ha:PA X [a,b] ta)(hs:starEach [a,b] X.env=[(false,eval a X.env),(false,eval b X.env)]:=by rfl)(hs2:starEach [b] X.env=[(false,eval b X.env)]:=by rfl) :
  PE X (.Call (.Name "range" p) [a,b] [] pos) (cH9 ta):=by
 refine⟨?_⟩;intro pins s σ H Q I h;refine Call_ (Y1 I hg hm boot_range (PyProof.Rows.callWith_type1 (thn (ha pos pins s σ H _ I h) λus s1 ⟨vs,H1,I1,r1,q1⟩=>?_) (by rw[hs,hs2]) (by rw[hs2];rfl)))
 obtain ⟨i,j,e,q⟩:=q1;subst e;cases r1 with
 | cons r rr=>
  cases rr with
  | cons r' rr=>
   cases rr
   obtain ⟨t,rfl⟩:=r;obtain ⟨t',rfl⟩:=r';refine call_range_2 ?_;refine⟨.ref _,_,I1.laid (λb o e=>Aa6 _ e) (Aa7 _) (show ObjOk X.prog X.w _ _ _ (.rng i j) from⟨_,_,_,Ac3 _ rfl⟩),rfl,q _ (I1.hok.fresh (Aa7 _))⟩
def y0 (lo:Int)(n:Nat):List V:=(List.range n).map λ(k:Nat)=>V.int (lo+(k:Int))
theorem aO1 (hc:X.calm=true):X0 X (.type "list") (λxs H Q=>∃(r:Addr) (i j:Int),xs=[.ref r]/\H r=some (.rng i j)/\(-(2^62)<=i/\i<2^62 /\ -(2^62)<=j/\j<2^62/\j-i<=1000000)/\∀l,H l=none->Q (.ref l) (upd H l (.lst (y0 i (j-i).toNat)))):=by
 intro pins s σ H xs us Q I r ⟨ra,i,j,e,hq,⟨h1,h2,h3,h4,h5⟩,q⟩;subst e;obtain ⟨u,rfl,rx⟩:=v7 r;cases rx;obtain ⟨t,u,v,e⟩:=I.hok ra _ hq;have hn:Builtin.Range.rangeSize i j 1=((j-i).toNat:Int):=by rw[rangeSize_one];split <;> omega
 refine call_list_range (I.ok.hd hc) (show IsRange s.heap ra i j 1 t u v from e) (small_one h1 h2 h3 h4) hn (by omega) λh' tk acc' c' kp el it=>?_
 have rv:Vals (y0 i (j-i).toNat) acc'.toList:=by
  obtain ⟨hz,hit⟩:=it;refine aU4 (by simp[y0,hz]) λk v u e1 e2=>?_
  obtain ⟨t,rfl⟩:=hit k u (by simpa using e2)
  have hk:k<(j-i).toNat:=by
   have:=(Ab0.mp e1).1
   simpa[y0]using this
  unfold y0 at e1;rw[Aa9,List.getElem?_range hk]at e1;cases e1;exact⟨t,by simp⟩
 refine⟨.ref s.heap.objs.size,_,I.laid kp (Aa7 _) (show ObjOk X.prog X.w _ h' _ (.lst _) from⟨?_,acc'.toList,c',rv,by simpa using el⟩),rfl,q _ (I.hok.fresh (Aa7 _))⟩
 simp[y0];unfold PySem.sizeLine;omega
end
end LV
namespace PySem
open Sem (wp)
theorem bH1:typeLookup (.type "list_reverseiterator") "__len__" = pure none:=by rw[typeLookup_type,builtinLookup_eq_fast];kernel_rfl
theorem bR8:typeLookup (.type "list_reverseiterator") "__length_hint__" = pure (some (.builtin "list_reverseiterator.__length_hint__")):=by rw[typeLookup_type,builtinLookup_eq_fast];kernel_rfl
section
variable {prog:Program}{w:World}{A:Around}{E:Value->Shared->Prop}{s:Shared}
theorem aG0 {R:Result->Shared->Prop}(hh:A.handled=none){r l:Addr}{items:Array Value}(hit:s.heap.IsRevIter r l ((items.size:Int)-1))(hl:s.heap.IsList l items)(hlr:l≠r)(S:Addr)(hSr:S≠r)(hSl:S≠l)(res:Value)(c₀:Nat)(hS:s.heap.get? S=some {cls:=.type "list",data:=.seq #[] c₀})
  (hR:∀h' tk acc' c',(∀b o,b≠S->b≠r->s.heap.get? b=some o->h'.get? b=some o)->h'.get? S=some {cls:=.type "list",dict:=none,data:=.seq acc' c',slots := #[]} ->
   ItemsOf (λi v=>items[items.size-1-i]? = some v) acc' items.size->R (.ok (.ret res)) {s with heap:=h',toks:=tk}) (hn:items.size<=sizeLine) :
  wpAny (model prog w) A.in1 (Builtin.List.listExtendWith (.ref S) (.ref r) res)
   (λfin s'=>match fin with | .done f=>R (.ok f) s' | .again c'=>c'.quiet=true/\codeAny (model prog w) A c' R s') (λe s'=>R (.error e) s') s:=by
 have hSf:S∉[r,l]:=λhm=>by simp at hm;rcases hm with h | h;exact hSr h;exact hSl h
 unfold Builtin.List.listExtendWith;refine wpAny_bind (wpAny_typeOf hit.typeIs ?_);have h1:Builtin.List.listSameRef (.ref S) (.ref r)=false:=by simp[Builtin.List.listSameRef,hSr]
 have h2:(Value.type "list_reverseiterator" == Value.type "list")=false:=by decide
 have h3:(Value.type "list_reverseiterator" == Value.type "tuple")=false:=by decide
 simp only[h1,h2,h3,Bool.or_false,Bool.false_eq_true,if_false];refine wpAny_bind (wpAny_pyIter_revIter hit ?_);refine wpAny_bind (wpAny_holding ?_);unfold Builtin.List.listLengthHint;refine wpAny_bind (wpAny_specialOf hit.typeIs bH1 ?_);show wpAny _ A.in1 (specialOf (Value.ref r) (Str.ofString "__length_hint__") >>= _) _ _ _;refine wpAny_bind (wpAny_specialOf hit.typeIs bR8 ?_)
 wp_delta
 refine wpAny_bind (wpAny_isInstance (b:=true) hit.typeIs (by rw[isSubtype_type];kernel_rfl) ?_)
 refine wpAny_pure ?_;rw[if_neg (by decide)]
 refine wpAny_pure ⟨plainId_quiet F.plain_extend_loop _,codeAny_extend_loopS (Walks.listRev (A:=A.in1) hh r l hlr items).toS hn S hSf res items.size 0 _ _ _ rfl (Nat.zero_le _) ⟨Nat.zero_le _,by simpa using hit,hl⟩ hS (ItemsOf.nil _) λs' acc' c' hm hS' hacc=>?_⟩
 rw[Moved.eq_with hm]
 refine hR s'.heap s'.toks acc' c' (λb ob hb hb' e=>hm.heap b ob (λhmem=>?_) e) hS' hacc
 rcases Aa1.mp hmem with e' | hmem
 ·exact hb e'
 ·exact hb' (Ad8.mp hmem)
theorem u9 {R:Result->Shared->Prop}(hh:A.handled=none){r l:Addr}{items:Array Value}(hit:s.heap.IsRevIter r l ((items.size:Int)-1))(hl:s.heap.IsList l items)(hlr:l≠r)(S:Addr)(hSr:S≠r)(hSl:S≠l)(hS:s.heap.get? S=some {cls:=.type "list",data:=.seq #[]})
  (hR:∀h' tk acc' c',(∀b o,b≠S->b≠r->s.heap.get? b=some o->h'.get? b=some o)->h'.get? S=some {cls:=.type "list",dict:=none,data:=.seq acc' c',slots := #[]} ->
   ItemsOf (λi v=>items[items.size-1-i]? = some v) acc' items.size->R (.ok (.ret .none)) {s with heap:=h',toks:=tk}) (hn:items.size<=sizeLine) :
  wpAny (model prog w) A.in1 (Builtin.«list.__init__» ⟨[.ref S,.ref r],[]⟩)
   (λfin s'=>match fin with | .done f=>R (.ok f) s' | .again c'=>c'.quiet=true/\codeAny (model prog w) A c' R s') (λe s'=>R (.error e) s') s:=by
 show wpAny _ _ (do let old <- Builtin.List.listItems (.ref S);Builtin.List.listUpdate (.ref S) (λ_ => #[]);letGo old.toList.reverse;Builtin.List.listExtendWith (.ref S) (.ref r) .none) _ _ s
 refine wpAny_bind ?_;unfold Builtin.List.listItems;refine wpAny_bind (wpAny_seqItems hS rfl (wpAny_pure ?_));show wpAny _ _ (updateSeq S (λ_ => #[]) >>= λ_=>letGo (#[]:Array Value).toList.reverse >>= λ_=>Builtin.List.listExtendWith (.ref S) (.ref r) .none) _ _ s
 refine wpAny_bind (wpAny_updateSeq hS rfl ?_);have hS₂:=Heap.get?_update_self (Obj.mapSeq (λ_=>(#[]:Array Value))) hS rfl
 have oth:∀b o,b≠S->s.heap.get? b=some o->(s.heap.update S (Obj.mapSeq (λ_=>(#[]:Array Value)))).get? b=some o:=
  λb o hb e=>(Heap.get?_update_other _ _ (Ne.symm hb)).trans e
 refine wpAny_bind (wpAny_letGo ?_);refine aG0 hh (s:={s with heap:=s.heap.update S (Obj.mapSeq (λ_=>(#[]:Array Value)))}) (hit.at λo e=>oth r o hSr.symm e) (hl.at λo e=>oth l o hSl.symm e) hlr S hSr hSl .none _ hS₂ (λh' tk acc' c' hk hS' hacc=>?_) hn
 exact hR h' tk acc' c' (λb o hb hb' e=>hk b o hb hb' (oth b o hb e)) hS' hacc
theorem aM0 {Q:Value->Shared->Prop}{r l:Addr}{items:Array Value}(hh:A.handled=none)(hit:s.heap.IsRevIter r l ((items.size:Int)-1))(hl:s.heap.IsList l items)(hlr:l≠r)(hn:items.size<=sizeLine)
  (hQ:∀h' tk acc' c',(∀b o,b≠r->s.heap.get? b=some o->h'.get? b=some o) ->
   h'.get? s.heap.objs.size=some {cls:=.type "list",dict:=none,data:=.seq acc' c',slots := #[]}->ItemsOf (λi v=>items[items.size-1-i]? = some v) acc' items.size->Q (.ref s.heap.objs.size) {s with heap:=h',toks:=tk}) :
  wpAny (model prog w) A (call (.type "list") [.ref r]) Q E s:=by
 refine callType_codes (Q₁:=λobj s₁=>obj=.ref s.heap.objs.size/\s₁={s with heap:=s.heap.push {cls:=.type "list",data:=.seq #[]}}) F.called_list (F.typeCall_list_1 _) F.entry_list_init
  (code_list_new _ ⟨rfl,rfl⟩) λobj s₁ h₁=>?_
 obtain ⟨rfl,rfl⟩:=h₁;have hS:(s.heap.push {cls:=.type "list",data:=.seq #[]}).get? s.heap.objs.size=some {cls:=.type "list",data:=.seq #[]}:=Ac3 _ rfl;have nr:s.heap.objs.size≠r:=by obtain ⟨o,e,_⟩:=hit;exact(Ab9 (Ab3 e)).symm
 have nl:s.heap.objs.size≠l:=by obtain ⟨o,e,_⟩:=hl;exact(Ab9 (Ab3 e)).symm
 refine⟨⟨_,hS,rfl⟩,F.args_list_init_2 _ _,u9 (A:=A.in1) hh (s:={s with heap:=s.heap.push {cls:=.type "list",data:=.seq #[]}}) (hit.at λo e=>Aa6 _ e) (hl.at λo e=>Aa6 _ e) hlr _ nr nl hS (λh' tk acc' c' hk hS' hacc=>?_) hn⟩
 exact⟨rfl,hQ h' tk acc' c' (λb o hb e=>hk b o (Ab9 (Ab3 e)) hb (Aa6 _ e)) hS' hacc⟩
end
end PySem
namespace LV
open PySem PySem.Spec PyProof.Rows L2
section
variable {X:Cx}
def bI7 (K:PySem.W.Frag)(te:TE):TE:=λσ H Q=>te σ H λx H1=>∃p ys,x=.ref p/\SqL K H1 p ys/\∀l,H1 l=none->Q (.ref l) (upd H1 l (.lst ys.reverse))
theorem bB8 (K:PySem.W.Frag){e:Expr}{te:TE}{p1 p2 pos1 pos2:Pos}(hc:X.calm=true)(hg1:Gl X "list")(hm1:X.mg "list" = none)(hg2:Gl X "reversed")(hm2:X.mg "reversed" = none)(he:PE X e te)(hK:X.K=K:=by rfl)
  (hs1:starEach [e] X.env=[(false,eval e X.env)]:=by rfl) (hs2:starEach [Expr.Call (.Name "reversed" p2) [e] [] pos2] X.env=[(false,eval (Expr.Call (.Name "reversed" p2) [e] [] pos2) X.env)]:=by rfl) :
  PE X (.Call (.Name "list" p1) [.Call (.Name "reversed" p2) [e] [] pos2] [] pos1) (bI7 K te):=by
 subst hK;refine⟨?_⟩;intro pins s σ H Q I h;refine wpAny_Call_Name_kw (Y1 I hg1 hm1 boot_list ?_);refine PyProof.Rows.callWith_type1 ?_ (by rw[hs2];rfl) rfl
 rw[hs2];show wpAny _ _ (spliced [(false,eval (Expr.Call (.Name "reversed" p2) [e] [] pos2) X.env)]) _ _ s;refine Calls.spliced_cons ?_;refine wpAny_Call_Name_kw (Y1 I hg2 hm2 boot_reversed ?_);refine PyProof.Rows.callWith_type1 ?_ (by rw[hs1];rfl) rfl
 rw[hs1];show wpAny _ _ (spliced [(false,eval e X.env)]) _ _ s;refine Calls.spliced_cons (thn (he pins s σ H _ I h) λu s1 ⟨x,H1,I1,r1,p,ys,e1,hq,q⟩=>?_)
 subst e1;cases r1;refine Calls.spliced_nil ?_;obtain ⟨its,rv,pl,hz⟩:=I1.list hq;have hlen:=rv.length;have hlt:p<s1.heap.objs.size:=by obtain ⟨o,n,e,_⟩:=pl;exact Ab3 e
 refine call_reversed_list pl.isList ?_;refine Calls.spliced_nil ?_;have I2:Inv X pins σ H1 {s1 with heap:=s1.heap.push (revObj p ((its.toArray.size:Int)-1))}:=I1.kept (t':=s1.toks) λb o e=>Aa6 _ e
 refine aM0 (I1.ok.hd hc) (r:=s1.heap.objs.size) (items:=its.toArray) ⟨_,Ac3 _ rfl,rfl,rfl⟩ (pl.isList.at λo e=>Aa6 _ e) (Ab9 hlt) (by rw[Ab2];omega) λh' tk acc' c' kp el it=>?_
 have rr:Vals ys.reverse acc'.toList:=by
  obtain ⟨hz,hit⟩:=it;have hz:acc'.size=its.length:=by simpa using hz
  refine aU4 (by simp[hz,hlen]) λj v u e1 e2=>?_
  have hj:j<its.length:=by
   have:=(Ab0.mp e2).1
   simpa[hz]using this
  have hu:=hit j u (by simpa using e2)
  rw[List.getElem?_reverse (by omega),hlen]at e1
  obtain ⟨u',h1,h2⟩:=rv.get e1;simp only[Ab2]at hu;have hu':its[its.length-1-j]? = some u:=by simpa using hu
  rw[h1]at hu';cases hu';exact h2
 have kp':∀b o,s1.heap.get? b=some o->h'.get? b=some o:=λb o e=>kp b o (Ab9 (Ab3 e)) (Aa6 _ e)
 have I3:Inv X pins σ (upd H1 (s1.heap.push (revObj p ((its.toArray.size:Int)-1))).objs.size (.lst ys.reverse)) {s1 with heap:=h',toks:=tk}:=
  I1.laid kp' (by rw[Heap.size_push];exact Nat.le_succ _) (show ObjOk X.prog X.w _ h' _ (.lst _) from⟨by rw[Ae1];exact hz,acc'.toList,c',rr,by simpa using el⟩)
 exact⟨.ref _,_,I3,rfl,q _ (I1.hok.fresh (by rw[Heap.size_push];exact Nat.le_succ _))⟩
end
section
variable {X:Cx}
theorem cA1 {s:Shared}{h':Heap}{o:Obj}(hk:∀b x,b∉[s.heap.objs.size]->(s.heap.push o).get? b=some x->h'.get? b=some x):∀b x,s.heap.get? b=some x->h'.get? b=some x:=
 λb x e=>hk b x (λhm=>by rw[Ad8.mp hm]at e;exact Ad9 _ (Ab3 e)) (Aa6 _ e)
theorem cA6 {bs:List Bool}{its:List Value}(r:Vals (bs.map V.bl) its){i:Nat}{v:Value}(e:its[i]? = some v):∃b,bs[i]? = some b/\v=.bool b:=by
 have hl:=r.length
 rw[Aa3]at hl;have hi:i<bs.length:=by have:=(Ab0.mp e).1;omega
 obtain ⟨u,h1,h2⟩:=r.get (i:=i) (x:=.bl bs[i]) (by rw[Aa9,Aa2 hi];rfl)
 rw[e]at h1;cases h1;exact⟨_,Aa2 hi,h2⟩
theorem bP6 (K:PySem.W.Frag)(hc:X.calm=true)(h:X.K=K:=by rfl):X0 X (.builtin "all") (λxs H Q=>∃(p:Addr) (l:List Bool),xs=[.ref p]/\SqL K H p (l.map V.bl)/\Q (.bl (l.all id)) H):=by
 subst h;intro pins s σ H xs us Q I r ⟨p,l,e,hq,q⟩;subst e;obtain ⟨u,rfl,rx⟩:=v7 r;cases rx;obtain ⟨its,rv,pl,_⟩:=I.list hq;have hl:=pl.isList;have hlt:p<s.heap.objs.size:=by obtain ⟨_,e,_⟩:=hl;exact Ab3 e
 refine call_all_walk (wpAny_pyIter_list hl ?_);refine⟨s.heap.objs.size,[s.heap.objs.size,p],[s.heap.objs.size],its.toArray.size,_,_,λi=>(l[i]?).getD true,rfl,Walks.list (A:=X.A.in1) (I.ok.hd hc) _ p (Ab9 hlt) its.toArray,
  ⟨⟨_,Ac3 _ rfl,rfl,rfl⟩,hl.push _⟩,λi v s' Q' E' hP hQ=>?_,λh' tk hk=>?_⟩
 ·obtain ⟨b,e,rfl⟩:=cA6 rv (i:=i) (v:=v) (by simpa using hP)
  simp only[e,Option.getD_some]at hQ;exact wpAny_truthy_bool hQ
 ·have e:((List.range its.toArray.size).all λi=>(l[i]?).getD true)=l.all id:=by
   have:=rv.length
   rw[Aa3]at this;rw[Ab2,<- this];exact LSm.range_all l
  rw[e];exact⟨.bl _,H,I.kept (cA1 hk),rfl,q⟩
end
end LV
namespace LS
open PySem PySem.W PyProof.Rows
def ev {α:Type}(lt:Nat->Nat->Bool):KasT α->α
 | .ret a=>a
 | .ask i j k=>ev lt (k (lt i j))
theorem W2 {α β:Type}(lt:Nat->Nat->Bool)(f:α->KasT β):∀t:KasT α,ev lt (t.bind f)=ev lt (f (ev lt t))
 | .ret _=>rfl
 | .ask i j k=>W2 lt f (k (lt i j))
def P8 {α:Type}(lt:Nat->Nat->Bool)(P:Nat->Prop):KasT α->Prop
 | .ret _=>True
 | .ask i j k=>P i/\P j/\P8 lt P (k (lt i j))
theorem Q4 {α β:Type}{lt:Nat->Nat->Bool}{P:Nat->Prop}{f:α->KasT β}:∀{t:KasT α},P8 lt P t->P8 lt P (f (ev lt t))->P8 lt P (t.bind f)
 | .ret _,_,h=>h
 | .ask _ _ _,⟨h1,h2,h3⟩,h=>⟨h1,h2,Q4 h3 h⟩
theorem cG8 {α:Type}{lt:Nat->Nat->Bool}{P:Nat->Prop}{cmp:Nat->Nat->(Bool->Shared->Prop)->Shared->Prop}{Q:α->Shared->Prop}{s:Shared}
  (hc:∀i j C,P i->P j->C (lt i j) s->cmp i j C s):∀(t:KasT α),P8 lt P t->Q (ev lt t) s->t.kasWp cmp Q s
 | .ret _,_,h=>h
 | .ask i j k,⟨h1,h2,h3⟩,h=>hc i j _ h1 h2 (cG8 hc (k (lt i j)) h3 h)
structure Ord (lt:Nat->Nat->Bool):Prop where
 asym:∀a b,lt a b=true->lt b a=false
 trans:∀a b c,lt b a=false->lt c b=false->lt c a=false
section
variable {lt:Nat->Nat->Bool}
def g (p:Array Nat)(i:Nat):Nat:=p.getD i 0
theorem aO8 {p:Array Nat}{i:Nat}:g p i=(p[i]?).getD 0:=by unfold g;simp[Array.getD_eq_getD_getElem?]
abbrev le (lt:Nat->Nat->Bool)(a b:Nat):Prop:=lt b a=false
theorem Ord.refl (O:Ord lt)(a:Nat):le lt a a:=by
 cases h:lt a a with
 | false=>exact h
 | true=>exact O.asym a a h
theorem Ord.of_lt (O:Ord lt){a b:Nat}(h:lt a b=true):le lt a b:=O.asym a b h
def Srt (lt:Nat->Nat->Bool)(p:Array Nat)(k:Nat):Prop:=∀i j,i<=j->j<k->le lt (g p i) (g p j)
def Dsc (lt:Nat->Nat->Bool)(p:Array Nat)(k:Nat):Prop:=∀i j,i<=j->j<k->le lt (g p j) (g p i)
theorem aP8 {p:Array Nat}{i j:Nat}(hj:j<=p.size)(k:Nat):g (kas_rev p i j) k=if i<=k/\k<j then g p (i+j-1-k) else g p k:=by
 unfold kas_rev;rw[aO8,getElem?_mirror_all hj,aO8,aO8];split <;> rfl
theorem cU1 {p:Array Nat}{k l:Nat}(hk:k<p.size)(hl:l<=k)(i:Nat):g (bubble p k (k-l)) i=if i=l then g p k else if l<i/\i<=k then g p (i-1) else g p i:=by
 rw[aO8,getElem?_bubble hk _ (by omega),aO8,aO8,aO8,show k-(k-l)=l by omega]
 repeat' split
 all_goals rfl
theorem aV1 (O:Ord lt){p:Array Nat}{N:Nat}:∀(f n:Nat),1<=n->n+f<=N->Srt lt p n->∃m,ev lt (kas_asc p f n)=m/\n<=m/\m<=n+f/\Srt lt p m/\(m<n+f->lt (g p m) (g p (m-1))=true)/\P8 lt (λi=>∃j,j<N/\i=g p j) (kas_asc p f n)
 | 0,n,h1,hN,h=>⟨n,rfl,Aa7 _,Aa7 _,h,λz=>absurd z (Ad9 _),trivial⟩
 | f+1,n,h1,hN,h=>by
  cases hc:lt (g p n) (g p (n-1)) with
  | true=>
   refine⟨n,?_,Aa7 _,by omega,h,λ_=>hc,⟨n,by omega,rfl⟩,⟨n-1,by omega,rfl⟩,?_⟩
   ·show ev lt (if lt (g p n) (g p (n-1))=true then KasT.ret n else kas_asc p f (n+1))=n
    rw[hc];rfl
   ·show P8 lt _ (if lt (g p n) (g p (n-1))=true then KasT.ret n else kas_asc p f (n+1))
    rw[hc];exact trivial
  | false=>
   have h':Srt lt p (n+1):=λi j hij hj=>by
    by_cases e:j=n
    ·subst e;by_cases e2:i=j
     ·subst e2;exact O.refl _
     ·exact O.trans _ _ _ (h i (j-1) (by omega) (by omega)) hc
    ·exact h i j hij (by omega)
   obtain ⟨m,e,a1,a2,a3,a4,a5⟩:=aV1 O (N:=N) f (n+1) (by omega) (by omega) h'
   refine⟨m,?_,by omega,by omega,a3,λz=>a4 (by omega),⟨n,by omega,rfl⟩,⟨n-1,by omega,rfl⟩,?_⟩
   ·show ev lt (if lt (g p n) (g p (n-1))=true then KasT.ret n else kas_asc p f (n+1))=m
    rw[hc];exact e
   ·show P8 lt _ (if lt (g p n) (g p (n-1))=true then KasT.ret n else kas_asc p f (n+1))
    rw[hc];exact a5
def Same (lt:Nat->Nat->Bool)(p:Array Nat)(n q:Nat):Prop:=q<n/\∀i j,n-1-q<=i->i<n->n-1-q<=j->j<n->le lt (g p i) (g p j)
theorem bL5 (O:Ord lt){p:Array Nat}{n q:Nat}(hn:n<=p.size)(h:Dsc lt p n)(hs:Same lt p n q):Dsc lt (kas_rev p (n-(q+1)) n) n/\(∀k,n<=k->g (kas_rev p (n-(q+1)) n) k=g p k)/\Same lt (kas_rev p (n-(q+1)) n) n q:=by
 obtain ⟨hq,hs⟩:=hs;have e:∀k,g (kas_rev p (n-(q+1)) n) k=if n-(q+1)<=k/\k<n then g p (n-(q+1)+n-1-k) else g p k:=aP8 hn;have al:∀k,k<n->le lt (g (kas_rev p (n-(q+1)) n) k) (g p k)/\le lt (g p k) (g (kas_rev p (n-(q+1)) n) k):=λk hk=>by
  rw[e];split
  ·exact⟨hs _ _ (by omega) (by omega) (by omega) (by omega),hs _ _ (by omega) (by omega) (by omega) (by omega)⟩
  ·exact⟨O.refl _,O.refl _⟩
 refine⟨λi j hij hj=>?_,λk hk=>by rw[e,if_neg (by omega)],hq,λi j h1 h2 h3 h4=>?_⟩
 ·exact O.trans _ _ _ (al j hj).1 (O.trans _ _ _ (h i j hij hj) (al i (by omega)).2)
 ·exact O.trans _ _ _ (al i h2).1 (O.trans _ _ _ (hs i j h1 h2 h3 h4) (al j h4).2)
theorem o7 (O:Ord lt){p:Array Nat}{n:Nat}(h1:1<=n)(h:Dsc lt p n)(hl:le lt (g p n) (g p (n-1))):Dsc lt p (n+1):=λi j hij hj=>by
 by_cases e:j=n
 ·subst e;by_cases e2:i=j
  ·subst e2;exact O.refl _
  ·exact O.trans _ _ _ hl (h i (j-1) (by omega) (by omega))
 ·exact h i j hij (by omega)
theorem aJ1 (O:Ord lt){P:Nat->Prop}{N:Nat}:∀(f:Nat) (p:Array Nat) (n q:Nat),1<=n->n+f<=N->N<=p.size->(∀j,j<N->P (g p j))->Dsc lt p n->Same lt p n q ->
  ∃p' m q',ev lt (kas_desc f p n q)=(p',m,q')/\p'.Perm p/\n<=m/\m<=n+f/\Dsc lt p' m/\Same lt p' m q'/\(∀j,j<N->P (g p' j))/\P8 lt P (kas_desc f p n q)
 | 0,p,n,q,h1,hN,hz,hP,h,hs=>⟨p,n,q,rfl,Array.Perm.refl _,Aa7 _,Aa7 _,h,hs,hP,trivial⟩
 | f+1,p,n,q,h1,hN,hz,hP,h,hs=>by
  have sh:∀c:Bool,lt (g p n) (g p (n-1))=c->ev lt (kas_desc (f+1) p n q)=ev lt (if c=true then(if q>0 then kas_desc f (kas_rev p (n-(q+1)) n) (n+1) 0 else kas_desc f p (n+1) 0)
    else .ask (g p (n-1)) (g p n) λd=>if d=true then .ret (p,n,q) else kas_desc f p (n+1) (q+1)):=λc e=>by subst e;rfl
  have sa:∀c:Bool,lt (g p n) (g p (n-1))=c->P8 lt P (if c=true then(if q>0 then kas_desc f (kas_rev p (n-(q+1)) n) (n+1) 0 else kas_desc f p (n+1) 0)
    else .ask (g p (n-1)) (g p n) λd=>if d=true then .ret (p,n,q) else kas_desc f p (n+1) (q+1))->P8 lt P (kas_desc (f+1) p n q):=λc e hh=>by subst e;exact⟨hP n (by omega),hP (n-1) (by omega),hh⟩
  cases hc:lt (g p n) (g p (n-1)) with
  | true=>
   rw[sh true hc,if_pos rfl];have sa:=sa true hc;rw[if_pos rfl]at sa;by_cases hq:q>0
   ·rw[if_pos hq]at sa ⊢;obtain ⟨d1,d2,d3⟩:=bL5 O (by omega) h hs
    have hl:le lt (g (kas_rev p (n-(q+1)) n) n) (g (kas_rev p (n-(q+1)) n) (n-1)):=by
     rw[d2 n (Aa7 _),aP8 (by omega),if_pos (by omega)]
     exact O.trans _ _ _ (O.of_lt hc) (hs.2 _ _ (by omega) (by omega) (by have:=hs.1;omega) (by have:=hs.1;omega))
    obtain ⟨p',m,q',a0,a1,a2,a3,a4,a5,a6,a7⟩:=aJ1 O (P:=P) (N:=N) f (kas_rev p (n-(q+1)) n) (n+1) 0 (by omega) (by omega) (by unfold kas_rev;rw[mirror_size];exact hz) (λj hj=>by
     rw[aP8 (by omega)]
     split
     ·exact hP _ (by have:=hs.1;omega)
     ·exact hP j hj) (o7 O h1 d1 hl) ⟨by omega,λi j b1 b2 b3 b4=>by
      have:i=j:=by omega
      subst this;exact O.refl _⟩
    exact⟨p',m,q',a0,a1.trans (mirror_perm _ _ _ _),by omega,by omega,a4,a5,a6,sa a7⟩
   ·rw[if_neg hq]at sa ⊢;obtain ⟨p',m,q',a0,a1,a2,a3,a4,a5,a6,a7⟩:=aJ1 O (P:=P) (N:=N) f p (n+1) 0 (by omega) (by omega) hz hP (o7 O h1 h (O.of_lt hc)) ⟨by omega,λi j b1 b2 b3 b4=>by
      have:i=j:=by omega
      subst this;exact O.refl _⟩
    exact⟨p',m,q',a0,a1,by omega,by omega,a4,a5,a6,sa a7⟩
  | false=>
   rw[sh false hc,if_neg Bool.false_ne_true];have sa:=sa false hc;rw[if_neg Bool.false_ne_true]at sa;cases hd:lt (g p (n-1)) (g p n) with
   | true=>
    refine⟨p,n,q,?_,Array.Perm.refl _,Aa7 _,by omega,h,hs,hP,sa ⟨hP _ (by omega),hP _ (by omega),?_⟩⟩
    ·show ev lt (if lt (g p (n-1)) (g p n)=true then _ else _)=_
     rw[hd];rfl
    ·show P8 lt P (if lt (g p (n-1)) (g p n)=true then _ else _)
     rw[hd];exact trivial
   | false=>
    obtain ⟨hq,hs⟩:=hs;have s':Same lt p (n+1) (q+1):=⟨by omega,λi j b1 b2 b3 b4=>by
     have up:∀i,n-1-q<=i->i<n+1->le lt (g p i) (g p (n-1))/\le lt (g p (n-1)) (g p i):=λi c1 c2=>by
      by_cases e:i=n
      ·subst e;exact⟨hd,hc⟩
      ·exact⟨hs i (n-1) c1 (by omega) (by omega) (by omega),hs (n-1) i (by omega) (by omega) c1 (by omega)⟩
     exact O.trans _ _ _ (up i (by omega) b2).1 (up j (by omega) b4).2⟩
    obtain ⟨p',m,q',a0,a1,a2,a3,a4,a5,a6,a7⟩:=aJ1 O (P:=P) (N:=N) f p (n+1) (q+1) (by omega) (by omega) hz hP (o7 O h1 h hd) s'
    refine⟨p',m,q',?_,a1,by omega,by omega,a4,a5,a6,sa ⟨hP _ (by omega),hP _ (by omega),?_⟩⟩
    ·show ev lt (if lt (g p (n-1)) (g p n)=true then _ else _)=_
     rw[hd];exact a0
    ·show P8 lt P (if lt (g p (n-1)) (g p n)=true then _ else _)
     rw[hd];exact a7
theorem cH0 (O:Ord lt){P:Nat->Prop}{p:Array Nat}{N:Nat}(hP:∀j,j<N->P (g p j)){f n:Nat}(h1:1<=n)(hN:n+f<=N)(h:Srt lt p n):P8 lt P (kas_asc p f n):=by
 obtain ⟨_,_,_,_,_,_,a⟩:=aV1 O f n h1 hN h;have up:∀{α:Type} (t:KasT α),P8 lt (λi=>∃j,j<N/\i=g p j) t->P8 lt P t:=λ{α} t=>by
  induction t with
  | ret _=>exact λz=>z
  | ask i j k ih=>
   rintro ⟨⟨a,ha,rfl⟩,⟨b,hb,rfl⟩,z⟩;exact⟨hP a ha,hP b hb,ih _ z⟩
 exact up _ a
theorem aZ8 (O:Ord lt){P:Nat->Prop}{p:Array Nat}{n N:Nat}(h1:1<=n)(hn:n<=N)(hz:N<=p.size)(hP:∀j,j<N->P (g p j))(h:Dsc lt p n) :
  ∃m p',ev lt (kas_tail3 n N p)=(m,p')/\p'.Perm p/\1<=m/\m<=N/\Srt lt p' m/\(∀j,j<N->P (g p' j))/\P8 lt P (kas_tail3 n N p):=by
 have e:∀k,g (kas_rev p 0 n) k=if 0<=k/\k<n then g p (0+n-1-k) else g p k:=aP8 (by omega)
 have s:Srt lt (kas_rev p 0 n) n:=λi j hij hj=>by
  rw[e,e,if_pos (by omega),if_pos (by omega)]
  exact h _ _ (by omega) (by omega)
 have hP':∀j,j<N->P (g (kas_rev p 0 n) j):=λj hj=>by
  rw[e];split
  ·exact hP _ (by omega)
  ·exact hP j hj
 obtain ⟨m,a0,a1,a2,a3,_,_⟩:=aV1 O (p:=kas_rev p 0 n) (N:=N) (N-n) n h1 (by omega) s
 refine⟨m,kas_rev p 0 n,?_,mirror_perm _ _ _ _,by omega,by omega,a3,hP',Q4 (cH0 O hP' h1 (by omega) s) trivial⟩
 unfold kas_tail3;rw[W2,a0];rfl
theorem aH2 (O:Ord lt){P:Nat->Prop}{p:Array Nat}{n N:Nat}(h1:1<=n)(hn:n+1<=N)(hz:N<=p.size)(hP:∀j,j<N->P (g p j))(h:Dsc lt p (n+1)) :
  ∃m p',ev lt (kas_descPart n N p)=(m,p')/\p'.Perm p/\1<=m/\m<=N/\Srt lt p' m/\(∀j,j<N->P (g p' j))/\P8 lt P (kas_descPart n N p):=by
 obtain ⟨p1,m1,q1,a0,a1,a2,a3,a4,a5,a6,a7⟩:=aJ1 O (P:=P) (N:=N) (N-(n+1)) p (n+1) 0 (by omega) (by omega) hz hP h ⟨by omega,λi j b1 b2 b3 b4=>by
  have:i=j:=by omega
  subst this;exact O.refl _⟩
 have z1:N<=p1.size:=by rw[a1.size_eq];exact hz
 unfold kas_descPart;by_cases hq:q1>0
 ·obtain ⟨d1,d2,d3⟩:=bL5 O (by omega) a4 a5
  have hP':∀j,j<N->P (g (kas_rev p1 (m1-(q1+1)) m1) j):=λj hj=>by
   rw[aP8 (by omega)]
   split
   ·exact a6 _ (by have:=a5.1;omega)
   ·exact a6 j hj
  obtain ⟨m,p',b0,b1,b2,b3,b4,b5,b6⟩:=aZ8 O (P:=P) (p:=kas_rev p1 (m1-(q1+1)) m1) (n:=m1) (N:=N) (by omega) (by omega) (by unfold kas_rev;rw[mirror_size];exact z1) hP' d1
  refine⟨m,p',?_,b1.trans ((mirror_perm _ _ _ _).trans a1),b2,b3,b4,b5,Q4 a7 ?_⟩
  ·rw[W2,a0];show ev lt (if q1>0 then _ else _)=_;rw[if_pos hq];exact b0
  ·rw[a0];show P8 lt P (if q1>0 then _ else _);rw[if_pos hq];exact b6
 ·obtain ⟨m,p',b0,b1,b2,b3,b4,b5,b6⟩:=aZ8 O (P:=P) (p:=p1) (n:=m1) (N:=N) (by omega) (by omega) z1 a6 a4
  refine⟨m,p',?_,b1.trans a1,b2,b3,b4,b5,Q4 a7 ?_⟩
  ·rw[W2,a0];show ev lt (if q1>0 then _ else _)=_;rw[if_neg hq];exact b0
  ·rw[a0];show P8 lt P (if q1>0 then _ else _);rw[if_neg hq];exact b6
theorem bV3 (O:Ord lt){P:Nat->Prop}{p:Array Nat}{N:Nat}(h1:1<=N)(hz:N<=p.size)(hP:∀j,j<N->P (g p j)) :
  ∃m p',ev lt (kas_count N p)=(m,p')/\p'.Perm p/\1<=m/\m<=N/\Srt lt p' m/\(∀j,j<N->P (g p' j))/\P8 lt P (kas_count N p):=by
 have s1:Srt lt p 1:=λi j hij hj=>by
  have:i=j:=by omega
  subst this;exact O.refl _
 obtain ⟨n,a0,a1,a2,a3,a4,_⟩:=aV1 O (p:=p) (N:=N) (N-1) 1 (by omega) (by omega) s1
 have aP:=cH0 O hP (f:=N-1) (n:=1) (by omega) (by omega) s1
 unfold kas_count;have wrap:∀{t:KasT (Nat×Array Nat)},(if(n==N)=true then KasT.ret (n,p) else if n>1 then .ask (p.getD 0 0) (p.getD (n-1) 0) λc=>if c=true then .ret (n,p) else kas_descPart n N (kas_rev p 0 n) else kas_descPart n N p)=t ->
   (∃m p',ev lt t=(m,p')/\p'.Perm p/\1<=m/\m<=N/\Srt lt p' m/\(∀j,j<N->P (g p' j))/\P8 lt P t) ->
   ∃m p',ev lt ((kas_asc p (N-1) 1).bind λn=>if(n==N)=true then .ret (n,p) else if n>1 then .ask (p.getD 0 0) (p.getD (n-1) 0) λc=>if c=true then .ret (n,p) else kas_descPart n N (kas_rev p 0 n) else kas_descPart n N p)=(m,p')/\p'.Perm p/\1<=m/\m<=N/\Srt lt p' m/\(∀j,j<N->P (g p' j)) /\
    P8 lt P ((kas_asc p (N-1) 1).bind λn=>if(n==N)=true then .ret (n,p) else if n>1 then .ask (p.getD 0 0) (p.getD (n-1) 0) λc=>if c=true then .ret (n,p) else kas_descPart n N (kas_rev p 0 n) else kas_descPart n N p):=λ{t} e h=>by
  obtain ⟨m,p',b0,b1,b2,b3,b4,b5,b6⟩:=h;refine⟨m,p',?_,b1,b2,b3,b4,b5,Q4 aP ?_⟩
  ·rw[W2,a0,e];exact b0
  ·rw[a0,e];exact b6
 refine wrap rfl ?_;by_cases e:n=N
 ·rw[if_pos (by simp[e])]
  exact⟨n,p,rfl,Array.Perm.refl _,a1,by omega,a3,hP,trivial⟩
 ·rw[if_neg (by simp[e])]
  have hd:=a4 (by omega)
  by_cases h2:n>1
  ·rw[if_pos h2];cases hc:lt (g p 0) (g p (n-1)) with
   | true=>
    refine⟨n,p,?_,Array.Perm.refl _,a1,by omega,a3,hP,hP 0 (by omega),hP (n-1) (by omega),?_⟩
    ·show ev lt (if lt (g p 0) (g p (n-1))=true then _ else _)=_
     rw[hc];rfl
    ·show P8 lt P (if lt (g p 0) (g p (n-1))=true then _ else _)
     rw[hc];exact trivial
   | false=>
    have al:∀i j,i<n->j<n->le lt (g p i) (g p j):=λi j hi hj=>O.trans _ _ _ (a3 i (n-1) (by omega) (by omega)) (O.trans _ _ _ hc (a3 0 j (by omega) hj))
    have er:∀k,g (kas_rev p 0 n) k=if 0<=k/\k<n then g p (0+n-1-k) else g p k:=aP8 (by omega)
    have ds:Dsc lt (kas_rev p 0 n) (n+1):=by
     refine o7 O a1 (λi j hij hj=>?_) ?_
     ·rw[er,er,if_pos (by omega),if_pos (by omega)]
      exact al _ _ (by omega) (by omega)
     ·rw[er,er,if_neg (by omega),if_pos (by omega)]
      exact O.trans _ _ _ (O.of_lt hd) (al _ _ (by omega) (by omega))
    have hP':∀j,j<N->P (g (kas_rev p 0 n) j):=λj hj=>by
     rw[er];split
     ·exact hP _ (by omega)
     ·exact hP j hj
    obtain ⟨m,p',b0,b1,b2,b3,b4,b5,b6⟩:=aH2 O (P:=P) (p:=kas_rev p 0 n) (n:=n) (N:=N) a1 (by omega) (by unfold kas_rev;rw[mirror_size];exact hz) hP' ds
    refine⟨m,p',?_,b1.trans (mirror_perm _ _ _ _),b2,b3,b4,b5,hP 0 (by omega),hP (n-1) (by omega),?_⟩
    ·show ev lt (if lt (g p 0) (g p (n-1))=true then _ else _)=_
     rw[hc];exact b0
    ·show P8 lt P (if lt (g p 0) (g p (n-1))=true then _ else _)
     rw[hc];exact b6
  ·rw[if_neg h2];have n1:n=1:=by omega
   subst n1;exact aH2 O (Aa7 _) (by omega) hz hP (o7 O (Aa7 _) (λi j hij hj=>by
    have:i=j:=by omega
    subst this;exact O.refl _) (O.of_lt hd))
theorem aM5 (O:Ord lt){P:Nat->Prop}{p:Array Nat}{k N:Nat}(hk:k<N)(hP:∀j,j<N->P (g p j))(hs:Srt lt p k):∀(f l r:Nat),l<=r->r<=k->r-l<=f->(∀i,i<l->le lt (g p i) (g p k))->(∀i,r<=i->i<k->lt (g p k) (g p i)=true) ->
  ∃m,ev lt (kas_place p k f l r)=m/\m<=k/\(∀i,i<m->le lt (g p i) (g p k))/\(∀i,m<=i->i<k->lt (g p k) (g p i)=true)/\P8 lt P (kas_place p k f l r)
 | 0,l,r,h1,h2,h3,h4,h5=>⟨l,rfl,by omega,h4,λi a b=>h5 i (by omega) b,trivial⟩
 | f+1,l,r,h1,h2,h3,h4,h5=>by
  unfold kas_place;by_cases hlr:l≥r
  ·rw[if_pos hlr];exact⟨l,rfl,by omega,h4,λi a b=>h5 i (by omega) b,trivial⟩
  ·rw[if_neg hlr];cases hc:lt (g p k) (g p ((l+r) / 2)) with
   | true=>
    obtain ⟨m,a0,a1,a2,a3,a4⟩:=aM5 O hk hP hs f l ((l+r) / 2) (by omega) (by omega) (by omega) h4 (λi b1 b2=>by
     cases e:lt (g p k) (g p i) with
     | true=>rfl
     | false=>
      have:lt (g p k) (g p ((l+r) / 2))=false:=O.trans _ _ _ (hs _ _ b1 b2) e
      rw[hc]at this;cases this)
    refine⟨m,?_,a1,a2,a3,hP k hk,hP _ (by omega),?_⟩
    ·show ev lt (if lt (g p k) (g p ((l+r) / 2))=true then _ else _)=_
     rw[hc];exact a0
    ·show P8 lt P (if lt (g p k) (g p ((l+r) / 2))=true then _ else _)
     rw[hc];exact a4
   | false=>
    obtain ⟨m,a0,a1,a2,a3,a4⟩:=aM5 O hk hP hs f ((l+r) / 2+1) r (by omega) (by omega) (by omega) (λi b1=>O.trans _ _ _ (hs i ((l+r) / 2) (by omega) (by omega)) hc) h5
    refine⟨m,?_,a1,a2,a3,hP k hk,hP _ (by omega),?_⟩
    ·show ev lt (if lt (g p k) (g p ((l+r) / 2))=true then _ else _)=_
     rw[hc];exact a0
    ·show P8 lt P (if lt (g p k) (g p ((l+r) / 2))=true then _ else _)
     rw[hc];exact a4
theorem bX2 (O:Ord lt){P:Nat->Prop}{N:Nat}:∀(f:Nat) (p:Array Nat) (k:Nat),k+f=N->N<=p.size->(∀j,j<N->P (g p j))->Srt lt p k ->
  ∃p',ev lt (kas_bin f p k)=p'/\p'.Perm p/\Srt lt p' N/\P8 lt P (kas_bin f p k)
 | 0,p,k,hN,hz,hP,h=>⟨p,rfl,Array.Perm.refl _,(show k=N from hN)▸h,trivial⟩
 | f+1,p,k,hN,hz,hP,h=>by
  obtain ⟨l,a0,a1,a2,a3,a4⟩:=aM5 O (k:=k) (N:=N) (by omega) hP h k 0 k (by omega) (by omega) (by omega) (λi z=>absurd z (Nat.not_lt_zero _)) (λi a b=>by omega)
  have e:∀i,g (bubble p k (k-l)) i=if i=l then g p k else if l<i/\i<=k then g p (i-1) else g p i:=cU1 (by omega) a1
  have s':Srt lt (bubble p k (k-l)) (k+1):=λi j hij hj=>by
   rw[e,e];by_cases il:i=l
   ·rw[if_pos il];by_cases jl:j=l
    ·rw[if_pos jl];exact O.refl _
    ·rw[if_neg jl,if_pos (by omega)]
     exact O.of_lt (a3 _ (by omega) (by omega))
   ·rw[if_neg il];by_cases jl:j=l
    ·rw[if_pos jl,if_neg (by omega)]
     exact a2 i (by omega)
    ·rw[if_neg jl];by_cases c1:l<i/\i<=k
     ·rw[if_pos c1,if_pos (by omega)]
      exact h _ _ (by omega) (by omega)
     ·rw[if_neg c1];by_cases c2:l<j/\j<=k
      ·rw[if_pos c2];exact h _ _ (by omega) (by omega)
      ·rw[if_neg c2];exact h _ _ hij (by omega)
  have hP':∀j,j<N->P (g (bubble p k (k-l)) j):=λj hj=>by
   rw[e]
   repeat' split
   all_goals exact hP _ (by omega)
  obtain ⟨p',b0,b1,b2,b3⟩:=bX2 O (P:=P) (N:=N) f (bubble p k (k-l)) (k+1) (by omega) (by rw[bubble_size];exact hz) hP' s'
  refine⟨p',?_,b1.trans (bubble_perm _ _ _),b2,?_⟩
  ·show ev lt ((kas_place p k k 0 k).bind λl=>kas_bin f (bubble p k (k-l)) (k+1))=p'
   rw[W2,a0];exact b0
  ·show P8 lt P ((kas_place p k k 0 k).bind λl=>kas_bin f (bubble p k (k-l)) (k+1))
   exact Q4 a4 (by rw[a0];exact b3)
theorem cF6 (O:Ord lt){N:Nat}(h1:1<=N):∃p',ev lt (kas_sort N)=p'/\p'.Perm (List.toArray (List.range N))/\Srt lt p' N/\P8 lt (λi=>i<N) (kas_sort N):=by
 have hg:∀j,j<N->g (List.toArray (List.range N)) j<N:=λj hj=>by
  rw[aO8];simp[hj]
 obtain ⟨m,p1,a0,a1,a2,a3,a4,a5,a6⟩:=bV3 O (P:=λi=>i<N) (p:=List.toArray (List.range N)) (N:=N) h1 (by simp) hg
 have z1:N<=p1.size:=by rw[a1.size_eq];simp
 unfold kas_sort;by_cases hm:m<N
 ·have hx:max m 1=m:=by omega
  obtain ⟨p',b0,b1,b2,b3⟩:=bX2 O (P:=λi=>i<N) (N:=N) (N-m) p1 m (by omega) z1 a5 a4
  refine⟨p',?_,b1.trans a1,b2,Q4 a6 ?_⟩
  ·rw[W2,a0];dsimp only;rw[if_pos hm,hx];exact b0
  ·rw[a0];dsimp only;rw[if_pos hm,hx];exact b3
 ·have:m=N:=by omega
  refine⟨p1,?_,a1,this▸a4,Q4 a6 ?_⟩
  ·rw[W2,a0];dsimp only;rw[if_neg hm];rfl
  ·rw[a0];dsimp only;rw[if_neg hm];exact trivial
end
end LS
namespace LV
open PySem PySem.Spec PyProof.Rows L2 PySem.W Att
section
variable {P:Program}{w:World}{A:Around}{s:Shared}{Q:Bool->Shared->Prop}
theorem aD4 (a b:Int)(as bs:List Int):HT.W1 (a::as) (b::bs)=if a=b then HT.W1 as bs else decide (a<b):=rfl
theorem aG8:∀{xs ys:List Value} {as bs:List Int} (i:Nat),IntsAre xs as->IntsAre ys bs->Q (HT.W1 as bs) s->KatLex P w A true (decide (as.length<bs.length)) Q (xs.zip ys) i s
 | _,_,_,_,i,.nil,.nil,h=>h
 | _,_,_,_,i,.nil,@IntsAre.cons n t vs ns r,h=>by
  have e:decide (([]:List Int).length<(n::ns).length)=true:=by simp
  show Q (decide (([]:List Int).length<(n::ns).length)) s
  rw[e];exact h
 | _,_,_,_,i,@IntsAre.cons n t vs ns r,.nil,h=>by
  have e:decide ((n::ns).length<([]:List Int).length)=false:=by simp
  show Q (decide ((n::ns).length<([]:List Int).length)) s
  rw[e];exact h
 | _,_,_,_,i,@IntsAre.cons a t xs as ra,@IntsAre.cons b u ys bs rb,h=>by
  rw[aD4]at h;refine kat_cons ?_;refine SeqAt.EqAt.int_int a t b u P w _ _ ?_;by_cases e:a=b
  ·subst e;rw[if_pos rfl]at h
   have:(a==a)=true:=by simp
   rw[this];refine kat_yes ?_;have e2:decide ((a::as).length<(a::bs).length)=decide (as.length<bs.length):=by simp
   rw[e2];exact aG8 (i+1) ra rb h
  ·rw[if_neg e]at h
   have:(a==b)=false:=by simpa using e
   rw[this];refine kat_no ?_;cases hb:(true&&i==0) with
   | true=>exact oneLt_int h
   | false=>exact kat_one _ _ (lt_int h)
theorem aJ7:∀a b:List Int,HT.W1 a b=true->HT.W1 b a=false
 | [],[],h=>by cases h
 | [],_::_,_=>rfl
 | _::_,[],h=>by cases h
 | x::xs,y::ys,h=>by
  rw[aD4]at h ⊢;by_cases e:x=y
  ·subst e;rw[if_pos rfl]at h ⊢;exact aJ7 xs ys h
  ·rw[if_neg e]at h;rw[if_neg (λz=>e z.symm)]
   have:=of_decide_eq_true h
   exact decide_eq_false (by omega)
def K6 (a b:List Int):Prop:=HT.W1 b a=false
theorem u5:∀a b c:List Int,K6 a b->K6 b c->K6 a c
 | [],_,[],_,_=>rfl
 | [],_,_::_,_,_=>rfl
 | _::_,[],_,h,_=>by cases h
 | _::_,_::_,[],_,h=>by cases h
 | x::xs,y::ys,z::zs,h1,h2=>by
  unfold K6 at *;rw[aD4]at *;by_cases e1:y=x
  ·subst e1;rw[if_pos rfl]at h1;by_cases e2:z=y
   ·subst e2;rw[if_pos rfl]at h2 ⊢;exact u5 xs ys zs h1 h2
   ·rw[if_neg e2]at h2 ⊢;exact h2
  ·rw[if_neg e1]at h1;have h1:=of_decide_eq_false h1;by_cases e2:z=y
   ·subst e2;rw[if_neg e1];exact decide_eq_false h1
   ·rw[if_neg e2]at h2;have h2:=of_decide_eq_false h2;rw[if_neg (by omega)]
    exact decide_eq_false (by omega)
theorem aM7:∀a b:List Int,K6 a b->K6 b a->a=b
 | [],[],_,_=>rfl
 | [],_::_,_,h=>by cases h
 | _::_,[],h,_=>by cases h
 | x::xs,y::ys,h1,h2=>by
  unfold K6 at *;rw[aD4]at *;by_cases e:x=y
  ·subst e;rw[if_pos rfl]at h1 h2;rw[aM7 xs ys h1 h2]
  ·rw[if_neg (λz=>e z.symm)]at h1
   rw[if_neg e]at h2;have h1:=of_decide_eq_false h1;have h2:=of_decide_eq_false h2;omega
theorem aP5 (a b:List Int):K6 a b\/K6 b a:=by
 unfold K6;cases h:HT.W1 b a with
 | false=>exact .inl rfl
 | true=>exact .inr (aJ7 b a h)
theorem cB5 (ts:Nat->List Int):LS.Ord λi j=>HT.W1 (ts i) (ts j):=
 ⟨λa b h=>aJ7 _ _ h,λa b c h1 h2=>u5 _ _ _ h1 h2⟩
def TupsAt (h:Heap):List Value->List (List Int)->Prop
 | [],[]=>True
 | v::vs,t::ts=>(∃a its,v=.ref a/\IsTup h a its/\IntsAre its.toList t/\t≠[])/\TupsAt h vs ts
 | _,_=>False
theorem TupsAt.length {h:Heap}:∀{vs:List Value} {ts:List (List Int)},TupsAt h vs ts->vs.length=ts.length
 | [],[],_=>rfl
 | _::_,_::_,r=>by simp[TupsAt.length r.2]
 | [],_::_,r=>r.elim
 | _::_,[],r=>r.elim
theorem TupsAt.get {h:Heap}:∀{vs:List Value} {ts:List (List Int)} {i:Nat},TupsAt h vs ts->i<ts.length->∃a its,vs.getD i .none=.ref a/\IsTup h a its/\IntsAre its.toList (ts.getD i [])
 | v::vs,t::ts,0,⟨⟨a,its,e,h1,h2,_⟩,_⟩,_=>⟨a,its,e,h1,h2⟩
 | v::vs,t::ts,i+1,⟨_,r⟩,hi=>TupsAt.get (i:=i) r (by simpa using hi)
 | [],[],_,_,hi=>by simp at hi
 | [],_::_,_,r,_=>r.elim
 | _::_,[],_,r,_=>r.elim
theorem TupsAt.keep {h h':Heap}:∀{vs:List Value} {ts:List (List Int)},TupsAt h vs ts->(∀a its,Value.ref a∈vs->IsTup h a its->IsTup h' a its)->TupsAt h' vs ts
 | [],[],_,_=>trivial
 | v::vs,t::ts,⟨⟨a,its,e,h1,h2,h3⟩,r⟩,k=>⟨⟨a,its,e,k a its (by rw[e];simp) h1,h2,h3⟩,r.keep λa its ha=>k a its (Ad4 _ ha)⟩
 | [],_::_,r,_=>r.elim
 | _::_,[],r,_=>r.elim
theorem TupsAt.kat {h:Heap}:∀{vs:List Value} {ts:List (List Int)},TupsAt h vs ts->∃fs,KatTups h vs fs/\fs.length=vs.length/\∀f∈fs,∃i t,f=Value.int i t
 | [],[],_=>⟨[],.nil,rfl,by simp⟩
 | v::vs,t::ts,⟨⟨a,its,e,⟨o,ho,hc,n,hd⟩,h2,h3⟩,r⟩=>by
  obtain ⟨fs,k1,k2,k3⟩:=r.kat;subst e;obtain ⟨l⟩:=its;cases h2 with
  | nil=>exact absurd rfl h3
  | cons i u r'=>
   refine⟨.int i u::fs,.cons ho hc hd (by simp) k1,by simp[k2],λf hf=>?_⟩
   rcases Aa1.mp hf with rfl | hf
   ·exact⟨_,_,rfl⟩
   ·exact k3 f hf
 | [],_::_,r=>r.elim
 | _::_,[],r=>r.elim
end
section
variable {P:Program}{w:World}{A:Around}{s:Shared}{E:Value->Shared->Prop}
theorem bD0 {L l:Addr}{m:Str->Option Value}{vs:List Value}{ts:List (List Int)}{Q:Value->Shared->Prop}(hL:s.heap.Ns L m)(hl:s.heap.IsList l vs.toArray)(ht:TupsAt s.heap vs ts)(hneL:∀a,Value.ref a∈vs->a≠L)(h2:2<=vs.length)(h64:vs.length<64)
  (h:∀h' D (p:List Nat) c,h'.Ns L m->(∀b o,b≠L->s.heap.get? b=some o->h'.get? b=some o)->s.heap.get? D=none->h'.get? D=some {cls:=.type "list",data:=.seq (p.map λi=>vs.getD i .none).toArray c}->p.Perm (List.range vs.length)->(p.map λi=>ts.getD i []).Pairwise K6->Q (.ref D) {s with heap:=h'}) :
  wpAny (model P w) A (call (.builtin "sorted") [.ref l]) Q E s:=by
 have hlen:=ht.length
 refine kat_sorted (cO1 hL) bY2 hl h2 h64 λD e1 h' F' N' hD=>?_
 have kp:∀b o,b≠L->s.heap.get? b=some o->h'.get? b=some o:=λb o hb e=>(N' (b,o) (Ad4 _ (q8 hb (g7 _ _) e))).1
 have DL:D≠L:=(N' _ List.mem_cons_self).2.1
 have hDs:s.heap.get? D=none:=by
  cases e:s.heap.get? D with
  | none=>rfl
  | some o=>exact absurd (hD (D,o) (q8 DL (g7 _ _) e)) (Ad9 _)
 have ht':TupsAt h' vs ts:=ht.keep λa its ha ⟨o,e,r⟩=>⟨o,kp a o (hneL a ha) e,r⟩
 obtain ⟨fs,k1,k2,k3⟩:=ht'.kat;refine kat_kind (s:={s with heap:=h'}) k1 (by omega) (T:=.type "int") (λv hv=>?_) (by decide) ?_
 ·obtain ⟨i,t,rfl⟩:=k3 v hv;exact λA Q E s _ q=>wpAny_of_eq (show typeOf (Value.int i t)=pure (.type "int") from rfl) q
 have et:(Value.type "int" != Value.type "tuple")=true:=by decide
 rw[et];obtain ⟨p',e0,hp,hs,ha⟩:=LS.cF6 (cB5 λi=>ts.getD i []) (N:=vs.length) (by omega)
 refine LS.cG8 (P:=λi=>i<vs.length) (lt:=λi j=>HT.W1 (ts.getD i []) (ts.getD j [])) (λi j C hi hj hC=>?_) _ ha ?_
 ·obtain ⟨a,its,e,⟨o,h1,c1,n1,d1⟩,r1⟩:=ht'.get (i:=i) (by omega)
  obtain ⟨a',its',e',⟨o',h1',c1',n1',d1'⟩,r1'⟩:=ht'.get (i:=j) (by omega)
  unfold kas_ask;rw[e,e'];refine kat_lt (s:={s with heap:=h'}) h1 d1 h1' d1' ?_
  have el:decide (its.size<its'.size)=decide ((ts.getD i []).length<(ts.getD j []).length):=by
   have a1:=r1.length;have a2:=r1'.length
   simp only[Array.length_toList]at a1 a2;rw[a1,a2]
  rw[el];exact aG8 0 r1 r1' hC
 ·rw[e0];refine KasFin.intro F' N' (.head λp hp z=>?_) λh'' c F'' N''=>?_
  ·have:=hD p hp
   rw[z]at this;exact absurd this (Ad9 _)
  ·have kp2:∀b o,b≠L->s.heap.get? b=some o->h''.get? b=some o:=λb o hb e=>(N'' (b,o) (Ad4 _ (q8 hb (g7 _ _) e))).1
   have hpl:p'.toList.Perm (List.range vs.length):=by simpa using(Array.perm_iff_toList_perm.mp hp)
   refine h h'' D p'.toList c F''.ns kp2 hDs (N'' _ List.mem_cons_self).1 hpl ?_;rw[Ae0,List.pairwise_iff_getElem];intro i j hi hj hij;have hz:p'.toList.length=vs.length:=by rw[hpl.length_eq];simp
   have:=hs i j (Nat.le_of_lt hij) (by omega)
   unfold LS.le at this;rw[LS.aO8,LS.aO8]at this;have hi':i<p'.size:=by simpa using hi
   have hj':j<p'.size:=by simpa using hj
   simp only[Array.getElem?_eq_getElem hi',Array.getElem?_eq_getElem hj',Option.getD_some]at this;unfold K6;simpa using this
end
section
variable {P:Program}{w:World}{A:Around}{s:Shared}{E:Value->Shared->Prop}
theorem aH8 {a:Addr}{vs:List Value}{n:Nat}{P':PySem.Fin->Shared->Prop}(ho:s.heap.get? a=some (seqObj "list" vs.toArray n))(h2:vs.length<2)
  (h:P' (.done (.ret .none)) {s with heap:=sortedHeap s.heap a vs vs.toArray}):wpAny (model P w) A (Builtin.«list.sort» ⟨[.ref a],[]⟩) P' E s:=by
 rw[list_sort_plain];have ha:a<s.heap.objs.size:=Ab3 ho;refine wpAny_bind (listItems_at ho rfl ?_);refine wpAny_bind (listUpdate_at ho rfl ?_);obtain ⟨e1,ho1⟩:∃e1,(s.heap.update a (Obj.mapSeq λ_ => #[])).get? a=some (seqObj "list" #[] e1):=⟨_,get?_update_seq ho (λ_ => #[])⟩
 refine wpAny_bind (seqEpoch_at ho1 rfl ?_);refine wpAny_bind (wpAny_newTuple ?_);refine wpAny_bind (wpAny_newList ?_);refine wpAny_holding ?_;have ho6:(((s.heap.update a (Obj.mapSeq λ_ => #[])).push (seqObj "tuple" vs.toArray 0)).push (seqObj "list" #[] 0)).get? a=some (seqObj "list" #[] e1):=by
  rw[Heap.get?_push_ne _ _ _ (by rw[size_push',Heap.size_update];exact Ab9 (Nat.lt_succ_of_lt ha)),Heap.get?_push_ne _ _ _ (by rw[Heap.size_update];exact Ab9 ha)]
  exact ho1
 show wpAny (model P w) A _ P' E {s with heap:=((s.heap.update a (Obj.mapSeq λ_ => #[])).push (seqObj "tuple" vs.toArray 0)).push (seqObj "list" #[] 0)}
 dsimp only
 have hsz:vs.toArray.size<2:=by simpa using h2
 rw[if_pos hsz,if_pos hsz];refine wpAny_bind (wpAny_pure ?_);rw[StateT.run_pure];refine wpAny_bind (wpAny_pure ?_);dsimp only;refine wpAny_bind (seqEpoch_at ho6 rfl ?_);refine wpAny_bind (listUpdate_at ho6 rfl ?_ (hsz2:=by rw[Array.size_map];show(pairsOf vs).size<=_;rw[pairsOf_size,sizeLine_eq];omega))
 simp only[bne_self_eq_false,Bool.false_eq_true,if_false];refine wpAny_pure ?_;have e:(arrOf (SortSt.mk' general' (vs.toArray.zip vs.toArray) #[] 7 none)).map (·.2)=vs.toArray:=by
  show(vs.toArray.zip vs.toArray).map (·.2)=vs.toArray
  refine Array.ext (by simp) λi h1 h2=>by simp
 have h':=h
 unfold sortedHeap at h';rw[e];exact h'
theorem aW6 {l:Addr}{vs:List Value}{Q:Value->Shared->Prop}(hl:s.heap.IsList l vs.toArray)(h2:vs.length<2)
  (h:Q (.ref (s.heap.objs.size+1)) {s with heap:=sortedAll s.heap vs vs.toArray}):wpAny (model P w) A (call (.builtin "sorted") [.ref l]) Q E s:=by
 refine Calls.call_function_entry kind_sorted plain_sorted entry_sorted (args_sorted1 _) ?_;unfold Builtin.«sorted»;refine wpAny_bind (m:=checkCount "sorted" 1 1 _) (wpAny_pure ?_);refine wpAny_bind (collect_list hl ?_ (by rw[sizeLine_eq];omega))
 refine wpAny_bind (wpAny_newList ?_ (by rw[sizeLine_eq];omega))
 have hsz:((s.heap.push (seqObj "list" #[] 0)).update s.heap.objs.size (Obj.mapSeq (· ++ vs.toArray))).objs.size=s.heap.objs.size+1:=by
  rw[Heap.size_update,size_push']
 have hoL:(((s.heap.push (seqObj "list" #[] 0)).update s.heap.objs.size (Obj.mapSeq (· ++ vs.toArray))).push (seqObj "list" vs.toArray 0)).get? (s.heap.objs.size+1)=some (seqObj "list" vs.toArray 0):=by
  rw[<- hsz];exact Ac3 _ rfl
 show wpAny _ _ _ _ _ {s with heap:=((s.heap.push (seqObj "list" #[] 0)).update s.heap.objs.size (Obj.mapSeq (· ++ vs.toArray))).push (seqObj "list" vs.toArray 0)}
 rw[hsz];refine wpAny_bind (wpAny_holding (wpAny_call_entry slot_list_sort ⟨_,hoL,rfl⟩ entry_list_sort (aH8 hoL h2 ⟨_,rfl,?_⟩) (args_list_sort _)));exact wpAny_pure ⟨_,rfl,h⟩
end
section
variable {X:Cx}
theorem bC9 {P:Program}{w:World}{H:Hp}{h:Heap}{a:Addr}:∀(o:HO),ObjOk P w H h a o->∃u,h.get? a=some u
 | .lst _,⟨_,its,n,_,e⟩=>⟨_,e⟩
 | .tup _,⟨_,its,_,o,e,_⟩=>⟨_,e⟩
 | .dK _,⟨_,_,vs,_,o,es,n,e,_⟩=>⟨_,e⟩
 | .dT _,⟨_,_,xs,_,o,es,ep,e,_⟩=>⟨_,e⟩
 | .set _ _,⟨o,es,ep,t,e,_⟩=>⟨_,e⟩
 | .ins _ _ _,⟨_,_,_,e,_⟩=>⟨_,e⟩
 | .own _,e=>e
 | .xd _,⟨mA,⟨o,h1⟩,_⟩=>by
  first
  | exact⟨_,h1.1⟩
  | (obtain ⟨_,_,h2,_⟩:=h1;exact⟨_,h2⟩)
  | (obtain ⟨_,h2,_⟩:=h1;exact⟨_,h2⟩)
 | .met _ _,e=>⟨_,e⟩
 | .rng _ _,⟨_,_,_,e⟩=>⟨_,e⟩
 | .frz _ _,⟨e,_⟩=>⟨_,e⟩
 | .tbl _,⟨_,e,_⟩=>⟨_,e⟩
 | .cod _,⟨_,o,_,_,z,e,_⟩=>by cases z;exact⟨o,e⟩
 | .ext _,⟨_,e,_⟩=>e
theorem bG3 {pins:List (Addr×Obj)}{σ:L2.St}{H:Hp}{s:Shared}{h':Heap}{m:Str->Option Value}{D:Addr}{ys:List V}{its:List Value}{c:Nat}(I:Inv X pins σ H s)(hL:s.heap.Ns X.env.locals m)(hL':h'.Ns X.env.locals m)(kp:∀b o,b≠X.env.locals->s.heap.get? b=some o->h'.get? b=some o)
  (hD:s.heap.get? D=none) (e:h'.get? D=some {cls:=.type "list",data:=.seq its.toArray c}) (rv:Vals ys its) (hz:ys.length<=sizeLine):H D=none/\Inv X pins σ (upd H D (.lst ys)) {s with heap:=h'}:=by
 have HD:H D=none:=by
  cases q:H D with
  | none=>rfl
  | some o=>obtain ⟨u,hu⟩:=bC9 o (I.hok D o q);rw[hD]at hu;cases hu
 have nD:∀b o,s.heap.get? b=some o->b≠D:=λb o q z=>by rw[z,hD]at q;cases q
 have nH:∀b o,H b=some o->b≠D:=λb o q z=>by rw[z,HD]at q;cases q
 refine⟨HD,?_⟩;refine I.step (g':=s.gens) (d':=s.drawn) (t':=s.toks) (ch:=[]) (by simp) (λb o hb _ _ q _=>kp b o hb q) (λb o hb _ _ q _=>⟨o.slots,kp b o hb q⟩) (λb o _ q n=>by rw[B0 (nD b o q)];exact n) (λb o _ q=>?_)
  (λb xs q=>by rw[B0 (nH b _ q)];exact q) (λb o u q=>by rw[B0 (nH b _ q)];exact q) (λb ps q=>⟨#[],by rw[B0 (nH b _ q)];simpa using q⟩) (λm' hm'=>?_) (λb o q=>?_) I.bare
 ·by_cases hb:b=X.env.locals
  ·subst hb;obtain ⟨o',_,_,ho',_⟩:=hL';exact⟨o',ho'⟩
  ·exact⟨o,kp b o hb q⟩
 ·rw[hm'.eq_nsMap,<- hL.eq_nsMap];exact hL'
 ·by_cases hb:b=D
  ·subst hb;rw[C0]at q;cases q;exact⟨hz,its,c,rv,e⟩
  ·rw[B0 hb]at q;refine(I.hok b o q).stay (λc' v hc q'=>kp c' v ?_ q') (λc' q'=>by rw[B0 (nH c' _ q')];exact q') λc' xs _ q'=>by rw[B0 (nH c' _ q')];exact q'
   rcases hc with z | z
   ·rw[z];exact C8 q I.free
   ·exact C8 z I.free
end
def TupsV (K:PySem.W.Frag)(H:Hp):List V->List (List Int)->Prop
 | [],[]=>True
 | v::vs,t::ts=>(∃a,v=.ref a/\SqT K H a (t.map V.int)/\t≠[])/\TupsV K H vs ts
 | _,_=>False
theorem TupsV.length {K:PySem.W.Frag}{H:Hp}:∀{vs:List V} {ts:List (List Int)},TupsV K H vs ts->vs.length=ts.length
 | [],[],_=>rfl
 | _::_,_::_,r=>by simp[TupsV.length r.2]
 | [],_::_,r=>r.elim
 | _::_,[],r=>r.elim
section
variable {X:Cx}{pins:List (Addr×Obj)}{σ:L2.St}{H:Hp}{s:Shared}
theorem cF7 (I:Inv X pins σ H s){a:Addr}{xs:List V}(h:SqT X.K H a xs):a≠X.env.locals:=by
 rcases h with (h | ⟨o,h⟩) | ⟨o,its,n,hk,_⟩
 ·exact C8 h I.free
 ·exact C8 h I.free
 ·have:=Ab3 (I.mod.kin a o hk)
  exact Ab9 (Ab8 this (Nat.le_trans I.ok.bsz I.ok.above))
theorem bM5 (I:Inv X pins σ H s):∀{vs:List V} {ts:List (List Int)} {us:List Value},TupsV X.K H vs ts->Vals vs us->TupsAt s.heap us ts/\∀a,Value.ref a∈us->a≠X.env.locals
 | [],[],_,_,r=>by cases r;exact⟨trivial,λa h=>by simp at h⟩
 | v::vs,t::ts,_,⟨⟨a,e,sq,ne⟩,h⟩,r=>by
  subst e;cases r with
  | cons r1 r2=>
   cases r1
   obtain ⟨h1,h2⟩:=bM5 I h r2;obtain ⟨its,rv,p,_⟩:=I.tuple sq;refine⟨⟨⟨a,its.toArray,rfl,p,by simpa using T4 rv,ne⟩,h1⟩,λb hb=>?_⟩
   rcases Aa1.mp hb with e | hb
   ·cases e;exact cF7 I sq
   ·exact h2 b hb
 | [],_::_,_,h,_=>h.elim
 | _::_,[],_,h,_=>h.elim
theorem aR7 {vs:List V}{us:List Value}(r:Vals vs us):∀{q:List Nat},(∀i∈q,i<vs.length)->Vals (q.map λi=>vs.getD i .non) (q.map λi=>us.getD i .none)
 | [],_=>.nil
 | i::q,h=>by
  have hi:=h i (by simp)
  obtain ⟨u,h1,h2⟩:=r.get (i:=i) (x:=vs[i]) (Aa2 hi);refine .cons ?_ (aR7 r λj hj=>h j (by simp[hj]))
  have e1:vs.getD i .non=vs[i]:=by simp[List.getD,hi]
  have e2:us.getD i .none=u:=by simp[List.getD,h1]
  show RelV (vs.getD i .non) (us.getD i .none)
  rw[e1,e2];exact h2
end
section
variable {X:Cx}
theorem j8 (K:PySem.W.Frag)(h:X.K=K:=by rfl):X0 X (.builtin "sorted") (λxs H Q=>∃(p:Addr) (ys:List V) (ts:List (List Int)),xs=[.ref p]/\SqL K H p ys/\TupsV K H ys ts/\ys.length<64 /\
  ∀a (q:List Nat),H a=none->q.Perm (List.range ys.length)->(q.map λi=>ts.getD i []).Pairwise K6->Q (.ref a) (upd H a (.lst (q.map λi=>ys.getD i .non)))):=by
 subst h;intro pins s σ H xs us Q I r ⟨p,ys,ts,e,hq,ht,h64,q⟩;subst e;obtain ⟨u,rfl,rx⟩:=v7 r;cases rx;obtain ⟨its,rv,pl,hz⟩:=I.list hq;have hlen:=rv.length;have htl:=ht.length;by_cases h2:its.length<2
 ·refine aW6 pl.isList h2 ?_;obtain ⟨e,he⟩:=sortedAll_at s.heap its its.toArray;have fin:=q (s.heap.objs.size+1) (List.range ys.length) (I.hok.fresh (Nat.le_succ _)) (.refl _) (by
   rw[hlen]
   match its.length,h2 with
   | 0,_=>simp
   | 1,_=>simp[List.range_succ])
  have el:((List.range ys.length).map λi=>ys.getD i .non)=ys:=by
   refine List.ext_getElem (by simp) λi h1 h2=>?_
   simp[List.getD,h2]
  rw[el]at fin;exact⟨.ref _,_,I.laid (t':=s.toks) (λb o e=>sortedAll_old e) (Nat.le_succ _) (show ObjOk X.prog X.w _ _ _ (.lst ys) from⟨hz,its,e,rv,he⟩),rfl,fin⟩
 ·obtain ⟨m,hm,_⟩:=I.loc;obtain ⟨ta,tl⟩:=bM5 I ht rv;refine bD0 hm pl.isList ta tl (by omega) (by omega) λh' D pp c hL' kp hD el hp hs=>?_
  have hin:∀i∈pp,i<ys.length:=λi hi=>by have:=Ab5.mp (hp.mem_iff.mp hi);omega
  have rv':=aR7 rv hin
  obtain ⟨HD,I'⟩:=bG3 I hm hL' kp hD el rv' (by rw[Aa3,hp.length_eq,List.length_range];omega)
  exact⟨.ref D,_,I',rfl,q D pp HD (by rw[hlen];exact hp) hs⟩
end
end LV
namespace LV
open PySem L2
section
variable {K:PySem.W.Frag}{ρ ρ' ρ1:List Sl}{m m':Bool}{t ta tb tc:TE}{d d':PyData}{ds es:List PyData}
abbrev lI (l:List Int):PyData:=.list (l.map .int)
abbrev tI (l:List Int):PyData:=.tuple (l.map .int)
theorem aE5:∀l:List Int,J8 (l.map .int)=true
 | []=>rfl
 | _::l=>by simp[J8,imm,aE5 l]
theorem Y8 {α:Type}{f:α->PyData}(h:∀a,imm (f a)=true):∀l:List α,J8 (l.map f)=true
 | []=>rfl
 | a::l=>by simp[J8,h a,Y8 h l]
theorem bR2 (l:List Int):imm (tI l)=true:=by simp[imm,aE5 l]
theorem aU8:∀{l:List PyData},(∀d∈l,imm d=true)->J8 l=true
 | [],_=>rfl
 | a::l,h=>by simp[J8,h a (by simp),aU8 (l:=l) λd hd=>h d (by simp[hd])]
theorem aJ0 (i:Int):Fit (.int i):=⟨rfl,by simp[PyData.depth]⟩
theorem bW9:Fit .none:=⟨rfl,by simp[PyData.depth]⟩
def FitN (n:Nat)(d:PyData):Prop:=d.canLay0=true/\d.depth<=n
theorem bY6 (n:Nat)(i:Int):FitN n (.int i):=⟨rfl,by simp[PyData.depth]⟩
theorem aK4 {n:Nat}:∀{l:List PyData},(∀d∈l,FitN n d)->PyData.canLayAll0 l=true/\PyData.depthAll l<=n
 | [],_=>⟨rfl,by simp[PyData.depthAll]⟩
 | a::l,h=>by
  obtain ⟨h1,h2⟩:=h a (by simp)
  obtain ⟨h3,h4⟩:=aK4 (l:=l) λd hd=>h d (by simp[hd])
  exact⟨by simp[PyData.canLayAll0,h1,h3],by simp only[PyData.depthAll];omega⟩
theorem aK6 {n:Nat}{l:List PyData}(h:∀d∈l,FitN n d):FitN (n+1) (.tuple l):=by
 obtain ⟨a,b⟩:=aK4 h;exact⟨by simpa[PyData.canLay0]using a,by simp only[PyData.depth];omega⟩
theorem bW0 {n:Nat}{l:List PyData}(h:∀d∈l,FitN n d):FitN (n+1) (.list l):=by
 obtain ⟨a,b⟩:=aK4 h;exact⟨by simpa[PyData.canLay0]using a,by simp only[PyData.depth];omega⟩
theorem FitN.fit {n:Nat}(h:FitN n d)(hn:n<=32:=by decide):Fit d:=⟨h.1,Nat.le_trans h.2 hn⟩
theorem bT0 (l:List Int):∀d∈l.map PyData.int,FitN 0 d:=λd hd=>by
 obtain ⟨i,_,rfl⟩:=Aa8.mp hd;exact bY6 0 i
theorem aW2 (l:List Int):FitN 1 (tI l):=aK6 (bT0 l)
theorem aQ6 (ha:E K false ta ρ d)(hb:E K false tb ρ d')(h1:Fit d)(h2:Fit d'):E K m (tOp (cP6 K true) ta tb) ρ (.bool (!PyData.eqv d d')):=
 bW8 false false ha hb λS H x y Q _ rx ry q=>⟨d,d',rx,ry,h1,h2,q _ H (L2.Same.rf _) (.bl _)⟩
theorem bA8 (ha:E K false ta ρ d)(hb:E K false tb ρ d')(hs:sq d'=some ds)(h1:Fit d)(h2:Fit d'):E K m (tOp (aW0 K false) ta tb) ρ (.bool (ds.any λz=>PyData.eqv z d)):=
 bW8 false false ha hb λS H x y Q _ rx ry q=>⟨d,d',ds,rx,ry,hs,h1,h2,q _ H (L2.Same.rf _) (.bl _)⟩
theorem bD4 (ha:E K false ta ρ d)(hb:E K false tb ρ d')(hs:sq d'=some ds)(h1:Fit d)(h2:Fit d'):E K m (tOp (aW0 K true) ta tb) ρ (.bool (!ds.any λz=>PyData.eqv z d)):=
 bW8 false false ha hb λS H x y Q _ rx ry q=>⟨d,d',ds,rx,ry,hs,h1,h2,q _ H (L2.Same.rf _) (.bl _)⟩
theorem V8 {α:Type}[DecidableEq α]{f:α->PyData}(h:∀a b,PyData.eqv (f a) (f b)=decide (a=b)):∀l l':List α,PyData.eqvAll (l.map f) (l'.map f)=decide (l=l')
 | [],[]=>by simp[PyData.eqvAll]
 | [],_::_=>by simp[PyData.eqvAll]
 | _::_,[]=>by simp[PyData.eqvAll]
 | a::l,b::l'=>by
  simp only[Ac7,PyData.eqvAll,h,V8 h l l',List.cons.injEq];by_cases e:a=b <;> simp[e]
theorem aB9 (a b:Int):PyData.eqv (.int a) (.int b)=decide (a=b):=by
 simp only[PyData.eqv];by_cases h:a=b <;> simp[h]
theorem cL6 (l l':List Int):PyData.eqv (tI l) (tI l')=decide (l=l'):=by
 simp only[PyData.eqv];exact V8 aB9 l l'
theorem bM8 {H:Hp}{p:V}{l:List Int}(r:Rep K H p (lI l)):∃a,p=.ref a/\SqL K H a (l.map V.int):=by
 cases r with
 | lst s r=>rw[<- r.ints];exact⟨_,rfl,s⟩
theorem cT0 {t:TA}{l:List Int}{M:Int}(ha:A K false t ρ [lI l])(hM:M∈l/\∀a∈l,M<=a):E K m (tCB (λxs H Q=>∃(p:Addr) (l:List Int),xs=[.ref p]/\SqL K H p (l.map V.int)/\l≠[]/\∀M,M∈l->(∀a∈l,M<=a)->Q (.int M) H) t) ρ (.int M):=cL0 ha λH vs Q r q=>by
 cases r with
 | cons a b=>
  cases b
  obtain ⟨p,rfl,s⟩:=bM8 a;refine⟨p,l,rfl,s,List.ne_nil_of_mem hM.1,λM' h1 h2=>?_⟩
  have:M'=M:=Int.le_antisymm (h2 M hM.1) (hM.2 M' h1)
  rw[this];exact q _ λ_=>.int _
abbrev lB (l:List Bool):PyData:=.list (l.map .bool)
theorem Reps.bools {H:Hp}:∀{l:List Bool} {vs:List V},Reps K H vs (l.map PyData.bool)->vs=l.map V.bl
 | [],_,r=>by cases r;rfl
 | i::l,_,r=>by
  cases r with
  | cons a b=>cases a;rw[Reps.bools b];rfl
theorem cP8 {t:TA}{l:List Bool}(ha:A K false t ρ [lB l]):E K m (tCB (λxs H Q=>∃(p:Addr) (l:List Bool),xs=[.ref p]/\SqL K H p (l.map V.bl)/\Q (.bl (l.all id)) H) t) ρ (.bool (l.all id)):=cL0 ha λH vs Q r q=>by
 cases r with
 | cons a b=>
  cases b
  cases a with
  | lst s r=>rw[r.bools]at s;exact⟨_,l,rfl,s,q _ λ_=>.bl _⟩
theorem bC1 {l:List Int}{k:Int}(ha:E K false ta ρ (lI l))(hb:E K false tb ρ (.int k))(hk:k∈l) :
  E K m (tBM K "list" (λx xs H Q=>∃(p:Addr) (l:List Int) (k:Int),x=.ref p/\xs=[.int k]/\SqL K H p (l.map V.int)/\k∈l/\Q (.int (l.idxOf k)) H) ta (E1 tb S6)) ρ (.int (l.idxOf k)):=E.bor (E.imm (m:=false) λS B σ H o I Q q=>ha S B σ H o I _ λv H1 s1 r=>by
 obtain ⟨p,rfl,s⟩:=bM8 r;refine⟨.inl ⟨rfl,_,s⟩,?_⟩;refine hb S B σ H1 o (I.grow s1) _ λu H2 s2 r2=>?_
 cases r2
 exact⟨p,l,k,rfl,rfl,S4 s2 s,hk,q _ H2 (L2.Same.tr s1 s2) (.int _)⟩)
theorem s9 {S:Addr->Prop}{H1:Hp}{p:Addr}{xs:List V}(hs:∀b,S b->∃xs,H1 b=some (.lst xs))(hp:H1 p=none)(r:Reps K H1 xs ds)(hi:J8 ds=true):Reps K (hid (λb=>S b\/b=p) (upd H1 p (.lst xs))) xs ds:=
 aK3 (λa ys q=>z7 (λb z=>by
  rcases z with z | z
  ·obtain ⟨zs,e⟩:=hs b z;exact⟨zs,by rw[B0 (λz'=>by rw[z',hp]at e;cases e)];exact e⟩
  ·exact⟨xs,by rw[z];exact C0⟩) (W7 (D5 hp) q)) ds hi r
theorem cG5 {r:List V->Hp->VK->Prop}{t:TA}(ha:A K false t ρ ds)(hi:J8 es=true)(hr:∀(H:Hp) (vs:List V) (Q:VK),Reps K H vs ds->(∀p xs,H p=none->Reps K H xs es->Q (.ref p) (upd H p (.lst xs)))->r vs H Q):EF K (tCB r t) ρ es:=λS B σ H o I Q q=>
 ha S B σ H o I _ λvs H1 s1 rs=>hr H1 vs Q rs λp xs hp rx=>q p xs _ (L2.Same.tr s1 (D5 hp)) (T8 s1 hp) C0 (s9 (I.grow s1).lists hp rx hi)
theorem cE8 {t:TA}(ha:A K false t ρ [d])(hs:sq d=some ds)(hi:J8 ds=true):EF K (tCB (λxs H Q=>∃p ys,xs=[.ref p]/\(SqL K H p ys\/SqT K H p ys)/\∀l,H l=none->Q (.ref l) (upd H l (.lst ys))) t) ρ ds:=cG5 ha hi λH vs Q r q=>by
 cases r with
 | cons a b=>
  cases b
  cases a with
  | lst s r=>cases hs;exact⟨_,_,rfl,.inl s,λl hl=>q l _ hl r⟩
  | tup s r=>cases hs;exact⟨_,_,rfl,.inr s,λl hl=>q l _ hl r⟩
  | _=>cases hs
theorem U9 {t:TA}(ha:A K false t ρ [.list ds])(hi:J8 ds=true):E K m (tCB (λxs H Q=>∃p ys,xs=[.ref p]/\((SqL K H p ys/\∀l,H l=none->Q (.ref l) (upd H l (.tup ys)))\/(SqT K H p ys/\Q (.ref p) H))) t) ρ (.tuple ds):=E.bor (E.imm (m:=false) (λS B σ H o I Q q=>ha S B σ H o I _ λvs H1 s1 r=>by
 cases r with
 | cons a b=>
  cases b
  cases a with
  | lst s r=>exact⟨_,_,rfl,.inl ⟨s,λl hl=>q _ _ (L2.Same.tr s1 (D5 hl)) (.tup (SqT.of C0) (r.mono (D5 hl)))⟩⟩) (by simp[imm,hi]))
theorem cK7 {t:TA}{i j:Int}(ha:A K false t ρ [.int i,.int j])(hb : -(2^62)<=i/\i<2^62 /\ -(2^62)<=j/\j<2^62/\j-i<=1000000) :
  EF K (tCB (λxs H Q=>∃(r:Addr) (i j:Int),xs=[.ref r]/\H r=some (.rng i j)/\(-(2^62)<=i/\i<2^62 /\ -(2^62)<=j/\j<2^62/\j-i<=1000000)/\∀l,H l=none->Q (.ref l) (upd H l (.lst (y0 i (j-i).toNat)))) (E1 (cH9 t) S6)) ρ (T3 i (j-i).toNat):=λS B σ H o I Q q=>
 ha S B σ H o I _ λvs H1 s1 r=>by
  cases r with
  | cons a b=>
   cases a
   cases b with
   | cons a b=>
    cases a;cases b
    refine⟨i,j,rfl,λp hp=>⟨p,i,j,rfl,C0,hb,λl hl=>?_⟩⟩
    have g1:=D5 (o:=.rng i j) hp
    have g2:=D5 (o:=.lst (y0 i (j-i).toNat)) hl
    refine q l _ _ (L2.Same.tr s1 (L2.Same.tr g1 g2)) (T8 (L2.Same.tr s1 g1) hl) C0 ?_;have e1:y0 i (j-i).toNat=((List.range (j-i).toNat).map λ(k:Nat)=>i+(k:Int)).map V.int:=by simp[y0]
    have e2:T3 i (j-i).toNat=((List.range (j-i).toNat).map λ(k:Nat)=>i+(k:Int)).map PyData.int:=by simp[T3]
    rw[e1,e2];exact aE7 _
theorem cM6 (ha:E K false ta ρ (.list ds))(hi:J8 ds=true):EF K (bI7 K ta) ρ ds.reverse:=λS B σ H o I Q q=>
 ha S B σ H o I _ λv H1 s1 r=>by
  cases r with
  | lst s r=>
   refine⟨_,_,rfl,s,λl hl=>q l _ _ (L2.Same.tr s1 (D5 hl)) (T8 s1 hl) C0 (s9 (I.grow s1).lists hl r.reverse ?_)⟩
   refine aU8 λd hd=>?_
   have:∀{l:List PyData},J8 l=true->∀d∈l,imm d=true:=λ{l}=>by
    induction l with
    | nil=>simp
    | cons a l ih=>intro h d hd;simp[J8]at h;rcases Aa1.mp hd with rfl | z;exact h.1;exact ih h.2 d z
   exact this hi d (List.mem_reverse.mp hd)
end
def OT.kids:OT->List OT
 | .leaf _=>[]
 | .tup ts=>ts
 | .lst ts=>ts
def OT.at:List Nat->OT->Option OT
 | [],t=>some t
 | k::π,t=>(t.kids[k]?).bind (OT.at π)
def OT.put (t:OT)(π:List Nat)(u:OT):OT:=match π with
 | []=>u
 | k::π=>match t with
  | .lst ts=>.lst (ts.modify k λt=>OT.put t π u)
  | .tup ts=>.tup (ts.modify k λt=>OT.put t π u)
  | .leaf d=>.leaf d
theorem OT.put_nil {t u:OT}:t.put [] u=u:=by rw[OT.put]
theorem OT.put_lst {ts:List OT}{k:Nat}{π:List Nat}{u:OT}:(OT.lst ts).put (k::π) u=.lst (ts.modify k λt=>OT.put t π u):=by rw[OT.put]
theorem OT.put_tup {ts:List OT}{k:Nat}{π:List Nat}{u:OT}:(OT.tup ts).put (k::π) u=.tup (ts.modify k λt=>OT.put t π u):=by rw[OT.put]
section
variable {K:PySem.W.Frag}{Z Z' H H':Hp}
theorem Q3 {α:Type}{f:α->α}:∀{l:List α} {k:Nat} {a:α},l[k]? = some a->l.modify k f=l.set k (f a)
 | [],k,a,h=>by simp at h
 | b::l,0,a,h=>by simp at h;subst h;rfl
 | b::l,k+1,a,h=>by
  have:=Q3 (f:=f) (l:=l) (k:=k) (a:=a) (by simpa using h)
  simpa using this
theorem bF2:∀{ts:List OT} {xs:List V} {L:List Addr} {k:Nat} {t:OT},Dps K Z H xs ts L->ts[k]? = some t->∃v L1 L2 L3,xs[k]? = some v/\Dp K Z H v t L2/\L=L1++L2++L3 /\
  ∀(Z' H':Hp) (t':OT) (L2':List Addr),Same Z Z'->(∀a xs,Rd H a (.tup xs)->Rd H' a (.tup xs))->(∀b,b∈L1\/b∈L3->H' b=H b)->Dp K Z' H' v t' L2'->Dps K Z' H' xs (ts.set k t') (L1++L2'++L3)
 | [],_,_,_,_,r,h=>by simp at h
 | t::ts,_,_,0,_,r,h=>by
  simp at h;subst h
  cases r with
  | @cons v _ vs _ La Lb a b=>
   refine⟨v,[],La,Lb,rfl,a,rfl,λZ' H' t' L2' hz ht hl r=>?_⟩
   simpa using Dps.cons r (Y2 hz ht ts (λb hb=>hl b (.inr hb)) b)
 | t::ts,_,_,k+1,t1,r,h=>by
  cases r with
  | @cons v _ vs _ La Lb a b=>
   obtain ⟨w,L1,L2,L3,h1,h2,h3,h4⟩:=bF2 (k:=k) (t:=t1) b (by simpa using h)
   refine⟨w,La++L1,L2,L3,by simpa using h1,h2,by rw[h3];simp,λZ' H' t' L2' hz ht hl r=>?_⟩
   have:=Dps.cons (t6 hz ht t (λb hb=>hl b (.inl (by simp[hb]))) a) (h4 Z' H' t' L2' hz ht (λb hb=>hl b (by rcases hb with hb | hb <;> simp[hb])) r)
   simpa using this
theorem cA4 {t:OT}{v:V}{L:List Addr}{k:Nat}{t1:OT}(r:Dp K Z H v t L)(h:t.kids[k]? = some t1):(∃a xs ts M,v=.ref a/\t=.tup ts/\SqT K H a xs/\Dps K Z H xs ts L/\ts[k]? = some t1/\M=L)\/∃a xs ts M,v=.ref a/\t=.lst ts/\H a=some (.lst xs)/\Dps K Z H xs ts M/\ts[k]? = some t1/\L=a::M:=by
 cases r with
 | leaf r=>simp[OT.kids]at h
 | tup s r=>exact .inl ⟨_,_,_,_,rfl,rfl,s,r,h,rfl⟩
 | lst s r=>exact .inr ⟨_,_,_,_,rfl,rfl,s,r,h,rfl⟩
def Foc (K:PySem.W.Frag)(Z H:Hp)(v0:V)(t0:OT)(L0:List Addr)(π:List Nat)(v:V)(t:OT):Prop:=
 ∃L A C,Dp K Z H v t L/\L0=A++L++C/\∀(Z' H':Hp) (t':OT) (L':List Addr),Same Z Z'->(∀a xs,Rd H a (.tup xs)->Rd H' a (.tup xs))->(∀b,b∈A\/b∈C->H' b=H b)->Dp K Z' H' v t' L'->Dp K Z' H' v0 (t0.put π t') (A++L'++C)
theorem Foc.root {v0:V}{t0:OT}{L0:List Addr}(r:Dp K Z H v0 t0 L0):Foc K Z H v0 t0 L0 [] v0 t0:=
 ⟨L0,[],[],r,by simp,λZ' H' t' L' _ _ _ r'=>by rw[OT.put_nil];simpa using r'⟩
theorem Foc.mono {v0 v:V}{t0 t:OT}{L0:List Addr}{π:List Nat}(f:Foc K Z H v0 t0 L0 π v t)(hz:Same Z Z')(ht:∀a xs,Rd H a (.tup xs)->Rd H' a (.tup xs))(hl:∀b∈L0,H' b=H b):Foc K Z' H' v0 t0 L0 π v t:=by
 obtain ⟨L,A,C,h1,h2,h3⟩:=f;refine⟨L,A,C,t6 hz ht t (λb hb=>hl b (by rw[h2];simp[hb])) h1,h2,λZ2 H2 t' L' hz' ht' hl' r'=>h3 Z2 H2 t' L' (L2.Same.tr hz hz') (λa xs z=>ht' a xs (ht a xs z)) (λb hb=>?_) r'⟩
 rw[hl' b hb];exact hl b (by rw[h2];rcases hb with hb | hb <;> simp[hb])
theorem aC1 {u t1:OT}{k:Nat}:∀{π:List Nat} {t0 t:OT},t0.at π=some t->t0.put π (t.put [k] u)=t0.put (π++[k]) u
 | [],t0,t,h=>by cases h;rw[OT.put_nil];rfl
 | j::π,t0,t,h=>by
  unfold OT.at at h;cases hk:t0.kids[j]? with
  | none=>rw[hk]at h;cases h
  | some t1=>
   rw[hk]at h;have h:t1.at π=some t:=h;cases t0 with
   | leaf d=>simp[OT.kids]at hk
   | lst ts=>
    have hk:ts[j]? = some t1:=hk
    rw[Ab6,OT.put_lst,OT.put_lst,Q3 hk,Q3 hk,aC1 (t1:=t1) h]
   | tup ts=>
    have hk:ts[j]? = some t1:=hk
    rw[Ab6,OT.put_tup,OT.put_tup,Q3 hk,Q3 hk,aC1 (t1:=t1) h]
theorem aC2 {k:Nat}:∀{π:List Nat} {t0 t:OT},t0.at π=some t->t0.at (π++[k])=t.kids[k]?
 | [],t0,t,h=>by
  cases h
  show(t0.kids[k]?).bind (OT.at [])=_
  cases t0.kids[k]? <;> rfl
 | j::π,t0,t,h=>by
  unfold OT.at at h;rw[Ab6];show(t0.kids[j]?).bind (OT.at (π++[k]))=_;cases hk:t0.kids[j]? with
  | none=>rw[hk]at h;cases h
  | some t1=>
   rw[hk]at h;exact aC2 (π := π) (t0:=t1) h
theorem Foc.down {v0 v:V}{t0 t t1:OT}{L0:List Addr}{π:List Nat}{k:Nat}(f:Foc K Z H v0 t0 L0 π v t)(ha:t0.at π=some t)(h:t.kids[k]? = some t1) :
  ∃a xs u,v=.ref a/\(SqL K H a xs\/SqT K H a xs)/\xs[k]? = some u/\Foc K Z H v0 t0 L0 (π++[k]) u t1:=by
 obtain ⟨L,A,C,h1,h2,h3⟩:=f;rcases cA4 h1 h with ⟨a,xs,ts0,M,rfl,rfl,s,r1,e,rfl⟩ | ⟨a,xs,ts0,M,rfl,rfl,s,r1,e,rfl⟩
 ·obtain ⟨u,L1,L2,L3,g1,g2,g3,g4⟩:=bF2 r1 e;refine⟨a,xs,u,rfl,.inr s,g1,L2,A++L1,L3++C,g2,by rw[h2,g3];simp,λZ' H' t' L' hz ht hl r'=>?_⟩
  have:=h3 Z' H' _ _ hz ht (λb hb=>hl b (by rcases hb with hb | hb <;> simp[hb])) (Dp.tup (s.imp (ht _ _) id) (g4 Z' H' t' L' hz ht (λb hb=>hl b (by rcases hb with hb | hb <;> simp[hb])) r'))
  rw[<- aC1 (t1:=t1) ha,OT.put_tup,Q3 e,OT.put_nil];simpa using this
 ·obtain ⟨u,L1,L2,L3,g1,g2,g3,g4⟩:=bF2 r1 e;refine⟨a,xs,u,rfl,.inl (SqL.of s),g1,L2,A++a::L1,L3++C,g2,by rw[h2,g3];simp,λZ' H' t' L' hz ht hl r'=>?_⟩
  have:=h3 Z' H' _ _ hz ht (λb hb=>hl b (by rcases hb with hb | hb <;> simp[hb])) (Dp.lst (by rw[hl a (by simp)];exact s) (g4 Z' H' t' L' hz ht (λb hb=>hl b (by rcases hb with hb | hb <;> simp[hb])) r'))
  rw[<- aC1 (t1:=t1) ha,OT.put_lst,Q3 e,OT.put_nil];simpa using this
end
section
variable {K:PySem.W.Frag}{ρ ρ' ρ1:List Sl}{m m':Bool}{t ta tb tc:TE}{d d':PyData}{ds es:List PyData}{u u0 u1:OT}{us:List OT}
def EFT (K:PySem.W.Frag)(t:TE)(ρ:List Sl)(u:OT):Prop:=
 ∀(S:Addr->Prop) (B:Hp) (σ:St) (H:Hp) (o:Nat->List Addr),Env K S B H σ ρ o->∀Q:VK,
  (∀v L H',Same H H'->(∀b∈L,H b=none)->L.Nodup->Dp K (hid (λb=>D2 ρ o S b\/b∈L) H') H' v u L->Q v H')->t σ H Q
def AFT (K:PySem.W.Frag)(t:TA)(ρ:List Sl)(us:List OT):Prop:=
 ∀(S:Addr->Prop) (B:Hp) (σ:St) (H:Hp) (o:Nat->List Addr),Env K S B H σ ρ o->∀Q:List V->Hp->Prop,
  (∀vs L H',Same H H'->(∀b∈L,H b=none)->L.Nodup->Dps K (hid (λb=>D2 ρ o S b\/b∈L) H') H' vs us L->Q vs H')->t σ H Q
theorem aX9 {S:Addr->Prop}{H:Hp}:Same (hid S H) (hid (λb=>S b\/b∈([]:List Addr)) H):=D4 (L2.Same.rf _) λb z _=>z.elim id λz=>nomatch z
theorem aS4 (h:E K true t ρ d):EFT K t ρ (.leaf d):=λS B σ H o I Q q=>h S B σ H o I _ λv H' s r=>
 q v [] H' s (λ_ z=>nomatch z) .nil (.leaf (r.mono aX9))
theorem aI7 {Z H:Hp}:∀{us:List OT} {vs:List V} {L:List Addr},Dps K Z H vs us L->vs.length=us.length
 | [],_,_,r=>by cases r;rfl
 | u::us,_,_,r=>by cases r with | cons a b=>simp[aI7 b]
theorem J0:AFT K S6 ρ []:=λS B σ H o I Q q=>q [] [] H (L2.Same.rf _) (λ_ z=>nomatch z) .nil .nil
theorem Dps.mono {Z Z' H H':Hp}{vs:List V}{L:List Addr}(r:Dps K Z H vs us L)(hz:Same Z Z')(h:Same H H'):Dps K Z' H' vs us L:=
 Y2 hz (λ_ _=>W7 h) us (λb hb=>by obtain ⟨xs,e⟩:=Y6 us r b hb;rw[e];exact h _ _ e) r
theorem Env.hide {S:Addr->Prop}{B H H1:Hp}{σ:St}{o:Nat->List Addr}{L:List Addr}(I:Env K S B H σ ρ o)(s:Same H H1)(n:∀b∈L,H b=none)(l:∀b∈L,∃xs,H1 b=some (.lst xs)) :
  Env K (λb=>S b\/b∈L) (hid (bS7 ρ o) H1) H1 σ ρ o:=by
 obtain ⟨J,sb⟩:=(I.grow s).rebase;have g:Same (hid (D2 ρ o S) H) (hid (D2 ρ o λb=>S b\/b∈L) H1):=D4 s λb z k=>by
  rcases z with (z | z) | z
  ·exact .inl z
  ·exact absurd (n b z) k
  ·exact .inr z
 refine⟨I.len,X2,λb z=>?_,J.new,I.inj,λi ds h=>?_,λi d h=>?_,λi d h=>?_,λi t h=>?_⟩
 ·rcases z with z | z
  ·exact J.sl b z
  ·obtain ⟨xs,e⟩:=l b z;refine⟨xs,hid_some.mpr ⟨λ⟨i,x,h,hx,hb⟩=>?_,e⟩⟩
   obtain ⟨ys,e'⟩:=I.lists b (.inr ⟨i,x,h,hx,hb⟩);rw[n b z]at e';cases e'
 ·obtain ⟨p,h1,h2,xs,h3,h4⟩:=I.own i ds h;exact⟨p,h1,h2,xs,s _ _ h3,h4.mono g⟩
 ·obtain ⟨v,h1,h2⟩:=I.val i d h;exact⟨v,h1,h2.mono g⟩
 ·obtain ⟨v,h1,h2⟩:=I.bor i d h;exact⟨v,h1,h2.mono s⟩
 ·obtain ⟨nd,v,h1,h2⟩:=I.tr i t h;exact⟨nd,v,h1,h2.mono g s⟩
theorem cC1 {o:Nat->List Addr}{S:Addr->Prop}{L:List Addr}{b:Addr}:D2 ρ o (λb=>S b\/b∈L) b↔D2 ρ o S b\/b∈L:=by
 constructor
 ·rintro ((z | z) | z)
  ·exact .inl (.inl z)
  ·exact .inr z
  ·exact .inl (.inr z)
 ·rintro ((z | z) | z)
  ·exact .inl (.inl z)
  ·exact .inr z
  ·exact .inl (.inr z)
theorem E9 {tr:TA}(ha:EFT K ta ρ u)(hr:AFT K tr ρ us):AFT K (E1 ta tr) ρ (u::us):=λS B σ H o I Q q=>
 ha S B σ H o I _ λx La H1 s1 n1 d1 r1=>hr _ _ σ H1 o (I.hide s1 n1 (o8 u r1)) _ λxs Lb H2 s2 n2 d2 r2=>by
  have l1:=o8 u r1
  refine q (x::xs) (La++Lb) H2 (L2.Same.tr s1 s2) (λb hb=>?_) ?_ (.cons (r1.mono ?_ s2) (r2.mono ?_ (L2.Same.rf _)))
  ·rcases Aa0.mp hb with hb | hb
   ·exact n1 b hb
   ·exact T8 s1 (n2 b hb)
  ·refine Aa4.mpr ⟨d1,d2,λa ha b hb e=>?_⟩
   subst e;obtain ⟨xs,e⟩:=l1 a ha;rw[n2 a hb]at e;cases e
  ·refine D4 s2 λb z k=>?_
   rcases z with z | z
   ·exact .inl z
   ·rcases Aa0.mp z with z | z
    ·exact .inr z
    ·exact absurd (n2 b z) k
  ·refine D4 (L2.Same.rf _) λb z _=>?_
   rw[cC1];rcases z with z | z
   ·exact .inl (.inl z)
   ·rcases Aa0.mp z with z | z
    ·exact .inl (.inr z)
    ·exact .inr z
theorem aI2 {t:TA}(h:AFT K t ρ us)(hl:us.length<=sizeLine:=by first | decide | (unfold PySem.sizeLine;simp)):EFT K (aH5 t) ρ (.tup us):=λS B σ H o I Q q=>h S B σ H o I _ λxs L H1 s1 n d r=>
 ⟨by rw[aI7 r];exact hl,λp hp=>by
  have g:=D5 (o:=.tup xs) hp
  exact q _ L _ (L2.Same.tr s1 g) n d (.tup (SqT.of C0) (r.mono (K1 g) g))⟩
theorem M8 {t:TA}(h:AFT K t ρ us)(hl:us.length<=sizeLine:=by first | decide | (unfold PySem.sizeLine;simp)):EFT K (cL9 t) ρ (.lst us):=λS B σ H o I Q q=>h S B σ H o I _ λxs L H1 s1 n d r=>
 ⟨by rw[aI7 r];exact hl,λp hp=>by
  have g:=D5 (o:=.lst xs) hp
  refine q _ (p::L) _ (L2.Same.tr s1 g) (λb hb=>?_) (Aa5.mpr ⟨λz=>?_,d⟩) (.lst C0 (r.mono ?_ g))
  ·rcases Aa1.mp hb with rfl | hb
   ·exact T8 s1 hp
   ·exact n b hb
  ·obtain ⟨ys,e⟩:=Y6 us r p z;rw[hp]at e;cases e
  ·refine D4 g λb z k=>?_
   rcases z with z | z
   ·exact .inl z
   ·rcases Aa1.mp z with rfl | z
    ·exact absurd hp k
    ·exact .inr z⟩
theorem bX9 {i:Nat}{R:AE}(h:EFT K t ρ u)(hn:R.nx (ρ.set i (.tr u)))(hi:i<ρ.length:=by first | decide | (simp;done) | (simp[LV.sl0];done)):W K (aO4 t (N2 i)) ρ R:=λS B D σ H o I s=>
 h S B σ H o I _ λv L H' s' n d r=>s.nx _ _ H' _ (I.put i hi (λ_=>False) (λ_ z=>z.elim) (λb y q _=>s' b y q) (λb z=>.inr (n b z)) (.inr ⟨u,rfl,d,r⟩) (.inl λ_ z=>z)) hn
def AtP (K:PySem.W.Frag)(t:TE)(ρ:List Sl)(i:Nat)(π:List Nat):Prop:=
 ∀(S:Addr->Prop) (B:Hp) (σ:St) (H:Hp) (o:Nat->List Addr),Env K S B H σ ρ o->∀(u0 u:OT),ρ[i]? = some (.tr u0)->u0.at π=some u->∀Q:VK,
  (∀v0 v H',Same H H'->σ[i]? = some (some v0)->Foc K (hid (D2 ρ o S) H') H' v0 u0 (o i) π v u->Q v H')->t σ H Q
theorem aA6 {i:Nat}:AtP K (D9 i) ρ i []:=λS B σ H o I u0 u h hu Q q=>by
 cases hu
 obtain ⟨_,v,a,b⟩:=I.tr i u0 h;exact⟨v,a,q v v H (L2.Same.rf _) a (Foc.root b)⟩
theorem Foc.grow {Z Z' H H':Hp}{v0 v:V}{L0:List Addr}{π:List Nat}(f:Foc K Z H v0 u0 L0 π v u)(l:∀b∈L0,∃xs,H b=some (.lst xs))(hz:Same Z Z')(h:Same H H'):Foc K Z' H' v0 u0 L0 π v u:=
 f.mono hz (λ_ _=>W7 h) λb hb=>by obtain ⟨xs,e⟩:=l b hb;rw[e];exact h _ _ e
theorem Env.trL {S:Addr->Prop}{B H:Hp}{σ:St}{o:Nat->List Addr}{i:Nat}(I:Env K S B H σ ρ o)(h:ρ[i]? = some (.tr u0)):∀b∈o i,∃xs,H b=some (.lst xs):=λb hb=>I.lists b (.inr ⟨i,_,h,rfl,hb⟩)
theorem aC7 {i:Nat}{π:List Nat}{k:Int}(n:Nat)(hp:AtP K ta ρ i π)(hb:E K false tb ρ (.int k))(hk:k=n)(hd:∀u0,ρ[i]? = some (.tr u0)->∃u,u0.at π=some u):AtP K (tOp (rIx K) ta tb) ρ i (π++[n]):=λS B σ H o I u0 u1 h hu Q q=>by
 obtain ⟨u,hu0⟩:=hd u0 h;rw[aC2 hu0]at hu;refine hp S B σ H o I u0 u h hu0 _ λv0 v H1 s1 a f=>?_
 refine hb S B σ H1 o (I.grow s1) _ λw H2 s2 r=>?_
 cases r
 have f2:=f.grow ((I.grow s1).trL h) (K1 s2) s2
 obtain ⟨p,xs,x,rfl,hs,hx,f3⟩:=f2.down hu0 hu;have e:=K0 n hk hx;rcases hs with hs | hs
 ·exact .inl ⟨p,xs,k,x,rfl,rfl,hs,e,q v0 x H2 (L2.Same.tr s1 s2) a f3⟩
 ·exact .inr (.inl ⟨p,xs,k,x,rfl,rfl,hs,e,q v0 x H2 (L2.Same.tr s1 s2) a f3⟩)
end
section
variable {K:PySem.W.Frag}{ρ ρ' ρ1:List Sl}{m m':Bool}{t ta tb tc:TE}{d d':PyData}{ds es:List PyData}{u u0 u1:OT}{us us':List OT}
theorem aK2 {S:Addr->Prop}{B H H2:Hp}{σ:St}{o:Nat->List Addr}{i:Nat}{π:List Nat}{v0:V}{p:Addr}{x:V}{Lx:List Addr}(I:Env K S B H σ ρ o)(hi:ρ[i]? = some (.tr u0))(hv:σ[i]? = some (some v0))
  (f:Foc K (hid (D2 ρ o S) H) H v0 u0 (o i) π (.ref p) (.lst us)) (s:Same H H2) (hN:∀b∈Lx,H b=none) (dx:Lx.Nodup) (rx:Dp K (hid (λb=>D2 ρ o S b\/b∈Lx) H2) H2 x u Lx)
  (nb:∀(j:Nat) (d:PyData),ρ[j]?≠some (Sl.bor d)) (fx:List V->List V) (us':List OT)
  (hc:∀(xs:List V) (M:List Addr) (Z' H':Hp),Dps K Z' H' xs us M->Dp K Z' H' x u Lx->∃M',Dps K Z' H' (fx xs) us' M'/\((M++Lx).Nodup->M'.Nodup)/\∀b∈M',b∈M++Lx) :
  ∃xs,H2 p=some (.lst xs)/\xs.length=us.length/\∃o',Env K S B (upd H2 p (.lst (fx xs))) σ (ρ.set i (.tr (u0.put π (.lst us')))) o':=by
 obtain ⟨nd,v0',hv',r0⟩:=I.tr i u0 hi;obtain ⟨L,A,C,h1,h2,h3⟩:=f;cases h1 with
 | @lst _ xs _ M hp r=>
 have hlt:i<ρ.length:=(Ab0.mp hi).1
 have oi:∀b∈o i,bU7 ρ o i b:=λb hb=>⟨_,hi,rfl,hb⟩
 have os:∀b∈o i,D2 ρ o S b:=λb hb=>.inr ⟨i,_,hi,rfl,hb⟩
 have pin:p∈o i:=by rw[h2];simp
 have sub:∀b,(b∈A\/b∈M\/b∈C)->b∈o i/\b≠p:=λb hb=>by
  rw[h2]at nd ⊢;refine⟨by rcases hb with hb | hb | hb <;> simp[hb],λe=>?_⟩
  subst e;simp only[Aa4,Aa5,Ab6,Aa0,Aa1,Ad7]at nd;grind
 have lst:=I.trL hi
 have up:∀b,b∈o i->b≠p->upd H2 p (.lst (fx xs)) b=H b:=λb hb hne=>by
  rw[B0 hne];obtain ⟨ys,e⟩:=lst b hb;rw[e];exact s _ _ e
 have tk:∀a ys,Rd H2 a (.tup ys)->Rd (upd H2 p (.lst (fx xs))) a (.tup ys):=λa ys q=>by
  have n:a≠p:=λe=>by
   subst e
   have:=s _ _ hp
   rcases q with q | ⟨o,q⟩ <;> rw[this]at q <;> cases q
  rcases q with q | ⟨o,q⟩
  ·exact .inl (by rw[B0 n];exact q)
  ·exact .inr ⟨o,by rw[B0 n];exact q⟩
 have z1:Same (hid (D2 ρ o S) H) (hid (λb=>D2 ρ o S b\/b∈Lx) (upd H2 p (.lst (fx xs)))):=λb y q=>by
  obtain ⟨q1,q2⟩:=hid_some.mp q;refine hid_some.mpr ⟨λz=>z.elim q1 λz=>(by rw[hN b z]at q2;cases q2),?_⟩
  rw[B0 (λe=>q1 (os b (by rw[e];exact pin)))]
  exact s _ _ q2
 have z2:Same (hid (λb=>D2 ρ o S b\/b∈Lx) H2) (hid (λb=>D2 ρ o S b\/b∈Lx) (upd H2 p (.lst (fx xs)))):=λb y q=>by
  obtain ⟨q1,q2⟩:=hid_some.mp q;refine hid_some.mpr ⟨q1,?_⟩;rw[B0 (λe=>q1 (.inl (os b (by rw[e];exact pin))))]
  exact q2
 have pN:p∉Lx:=λz=>by rw[hN p z]at hp;cases hp
 obtain ⟨M',c1,c2,c3⟩:=hc xs M _ _ (Y2 z1 (λa ys q=>tk a ys (W7 s q)) us (λb hb=>up b (sub b (.inr (.inl hb))).1 (sub b (.inr (.inl hb))).2) r)
  (t6 z2 tk u (λb hb=>by rw[B0 (λe=>pN (by rw[<- e];exact hb))]) rx)
 have fin:=h3 _ _ (.lst us') (p::M') z1 (λa ys q=>tk a ys (W7 s q)) (λb hb=>up b (sub b (by rcases hb with hb | hb <;> simp[hb])).1 (sub b (by rcases hb with hb | hb <;> simp[hb])).2) (.lst C0 c1)
 have far:∀b∈Lx,b∉o i:=λb hb hb'=>by
  obtain ⟨ys,e⟩:=lst b hb';rw[hN b hb]at e;cases e
 have mem:∀b∈A++p::M'++C,b∈o i\/b∈Lx:=λb hb=>by
  rw[h2]
  have:=c3 b
  simp only[Aa0,Aa1]at hb this ⊢;grind
 have nodup:(A++p::M'++C).Nodup:=by
  rw[h2]at nd far;simp only[Aa4,Aa5,Ab6,Aa0,Aa1,Ad7]at nd far c2 c3 ⊢;grind
 refine⟨xs,s _ _ hp,aI7 r,aY7 o i (A++p::M'++C),?_⟩
 have:=I.put (H':=upd H2 p (.lst (fx xs))) (v:=v0) (x:=.tr (u0.put π (.lst us'))) (L:=A++p::M'++C) i hlt (λb=>b=p) (λb z=>by rw[z];exact oi p pin) (λb y q z=>by rw[B0 z];exact s _ _ q)
  (λb hb=>(mem b hb).imp (oi b) (hN b))
  (.inr ⟨_,rfl,nodup,fin.mono (D4 (L2.Same.rf _) λb z _=>z.elim .inl λz=>(mem b z).elim (λz=>.inl (os b z)) .inr) (L2.Same.rf _)⟩) (.inr nb)
 rw[bD9 hv]at this;exact this
theorem aJ9 {Z H:Hp}{x:V}{Lx:List Addr}:∀{us:List OT} {xs:List V} {M:List Addr},Dps K Z H xs us M->Dp K Z H x u Lx->Dps K Z H (xs++[x]) (us++[u]) (M++Lx)
 | [],_,_,r,h=>by cases r;simpa using Dps.cons h .nil
 | a::us,_,_,r,h=>by
  cases r with
  | @cons v _ vs _ La Lb r1 r2=>
   have:=Dps.cons r1 (aJ9 r2 h)
   simpa using this
theorem Y9 {i:Nat}{π:List Nat}{R:AE}(hp:AtP K ta ρ i π)(hi:ρ[i]? = some (.tr u0))(hu:u0.at π=some (.lst us))(he:EFT K tb ρ u)(hl:us.length<sizeLine)(hn:R.nx (ρ.set i (.tr (u0.put π (.lst (us++[u]))))))(nb:S7 ρ=true:=by rfl) :
  W K (aP4 (tBM K "list" aD9 ta (E1 tb S6))) ρ R:=λS B D σ H o I s=>by
 refine hp S B σ H o I u0 _ hi hu _ λv0 v H1 s1 a f=>?_
 have ⟨L,A,C,f1,f2,f3⟩:=f
 cases f1 with
 | @lst p xs _ M hpp r=>
 refine⟨.inl ⟨rfl,_,SqL.of hpp⟩,?_⟩;refine he S B σ H1 o (I.grow s1) _ λx Lx H2 s2 n d rx=>?_
 obtain ⟨ys,e1,e2,o',J⟩:=aK2 (I.grow s1) hi a f s2 n d rx (L6 nb) (λxs=>xs++[x]) (us++[u]) λxs M Z' H' r1 r2=>⟨M++Lx,aJ9 r1 r2,λh=>h,λb hb=>hb⟩
 exact⟨p,ys,x,rfl,rfl,e1,by rw[e2];exact hl,s.nx _ σ _ o' J hn⟩
theorem bK1 {Z H:Hp}{x:V}:∀{us:List OT} {xs:List V} {M:List Addr} {n:Nat},Dps K Z H xs us M->Dp K Z H x u []->∃M',Dps K Z H (xs.set n x) (us.set n u) M'/\(M.Nodup->M'.Nodup)/\∀b∈M',b∈M
 | [],_,_,n,r,h=>by cases r;exact⟨[],.nil,id,λ_ z=>z⟩
 | a::us,_,_,0,r,h=>by
  cases r with
  | @cons v _ vs _ La Lb r1 r2=>exact⟨Lb,by simpa using Dps.cons h r2,λz=>(Aa4.mp z).2.1,λb hb=>by simp[hb]⟩
 | a::us,_,_,n+1,r,h=>by
  cases r with
  | @cons v _ vs _ La Lb r1 r2=>
   obtain ⟨M',h1,h2,h3⟩:=bK1 (n:=n) r2 h;refine⟨La++M',Dps.cons r1 h1,λz=>?_,λb hb=>?_⟩
   ·obtain ⟨z1,z2,z3⟩:=Aa4.mp z;exact Aa4.mpr ⟨z1,h2 z2,λa ha b hb=>z3 a ha b (h3 b hb)⟩
   ·rcases Aa0.mp hb with hb | hb
    ·simp[hb]
    ·simp[h3 b hb]
theorem cJ5 {i:Nat}{π:List Nat}{k:Int}{R:AE}(n:Nat)(he:E K true t ρ d)(hp:AtP K ta ρ i π)(hk:E K false tb ρ (.int k))(hkn:k=n)(hn':n<us.length)(hi:ρ[i]? = some (.tr u0))(hu:u0.at π=some (.lst us))(hn:R.nx (ρ.set i (.tr (u0.put π (.lst (us.set n (.leaf d)))))))(nb:S7 ρ=true:=by rfl) :
  W K (aO4 t (cJ3 ta tb bW7)) ρ R:=λS B D σ H o I s=>by
 refine he S B σ H o I _ λx H0 s0 rx=>?_
 refine hp S B σ H0 o (I.grow s0) u0 _ hi hu _ λv0 v H1 s1 a f=>?_
 have ⟨L,A,C,f1,f2,f3⟩:=f
 cases f1 with
 | @lst p xs _ M hpp r=>
 refine hk S B σ H1 o ((I.grow s0).grow s1) _ λw H2 s2 rw_=>?_
 cases rw_
 obtain ⟨ys,e1,e2,o',J⟩:=aK2 (x:=x) (u:=.leaf d) (Lx:=[]) ((I.grow s0).grow s1) hi a f s2 (λb z=>nomatch z) .nil (.leaf (rx.mono (L2.Same.tr (K1 (L2.Same.tr s1 s2)) aX9))) (L6 nb) (λxs=>xs.set n x) (us.set n (.leaf d)) λxs M Z' H' r1 r2=>by
  obtain ⟨M',g1,g2,g3⟩:=bK1 (n:=n) r1 r2;exact⟨M',g1,λh=>g2 (by simpa using h),λb hb=>by simpa using g3 b hb⟩
 exact⟨p,ys,k,n,rfl,rfl,e1,by unfold ixN;rw[if_pos (by omega),if_pos (by omega)];simp[hkn],s.nx _ σ _ o' J hn⟩
def EX (K:PySem.W.Frag)(t:TE)(ρ:List Sl)(j:Nat)(d:PyData)(ρ':List Sl):Prop:=
 ∀(S:Addr->Prop) (B:Hp) (σ:St) (H:Hp) (o:Nat->List Addr),Env K S B H σ ρ o->∀Q:VK,(∀v H' o',Env K S B H' σ ρ' o'->(∀k,k≠j->o' k=o k)->(∀b y,H b=some y->b∉o j->H' b=some y)->(∀b∈o j,∃xs,H b=some (.lst xs)) ->
  Same (hid (D2 ρ o S) H) (hid (D2 ρ' o' S) H')->Rep K (hid (D2 ρ' o' S) H') v d->Q v H')->t σ H Q
theorem bE6 {j:Nat}(hj:ρ[j]? = some (.own (ds++[d])))(nb:S7 ρ=true:=by rfl):EX K (cM1 K "list" cL8 (D9 j)) ρ j d (ρ.set j (.own ds)):=λS B σ H o I Q q=>by
 obtain ⟨p,hp,a,xs,b,c⟩:=I.own j _ hj;have hl:=c.length;obtain ⟨y,h1,h2⟩:=c.get' (i:=ds.length) (d:=d) (by simp)
 refine⟨_,a,.inl ⟨rfl,xs,SqL.of b⟩,_,xs,y,rfl,rfl,b,by rw[hl];simpa using h1,?_⟩
 have c':=c.dropLast
 rw[List.dropLast_concat]at c';have I':=I.upd hj hp c' (L6 nb);have g:=aY0 (S:=S) (H:=H) (xs:=xs.dropLast) (es:=ds) hj hp;exact q y _ _ I' (λk hk=>R9 (Ne.symm hk)) (λb' x e n=>by rw[B0 (λz=>n (by rw[hp,z];simp))];exact e) (λb' hb=>I.lists b' (.inr ⟨j,_,hj,rfl,hb⟩)) g (h2.mono g)
theorem bZ8 {j:Nat}{k:Int}(n:Nat)(hj:ρ[j]? = some (.own ds))(hk:E K false tb ρ (.int k))(hkn:k=n)(hn:ds[n]? = some d)(hb:n<2^63)(nb:S7 ρ=true:=by rfl):EX K (tBM K "list" bQ8 (D9 j) (E1 tb S6)) ρ j d (ρ.set j (.own (ds.eraseIdx n))):=λS B σ H0 o I0 Q q=>by
 obtain ⟨p,hp,a,xs,b0,c0⟩:=I0.own j _ hj;refine⟨_,a,.inl ⟨rfl,xs,SqL.of b0⟩,?_⟩;refine hk S B σ H0 o I0 _ λw H s0 r=>?_
 cases r
 have I:=I0.grow s0
 have b:=s0 _ _ b0
 have c:=c0.mono (K1 s0)
 obtain ⟨y,h1,h2⟩:=c.get' hn;have hl:=(Ab0.mp h1).1;refine⟨_,xs,k,n,y,rfl,rfl,b,by omega,by omega,(aV3 (by unfold ixN;rw[if_pos (by omega),if_pos (by omega)];simp[hkn])).1,h1,?_⟩
 have I':=I.upd hj hp (c.eraseIdx n) (L6 nb)
 have g:=aY0 (S:=S) (H:=H) (xs:=xs.eraseIdx n) (es:=ds.eraseIdx n) hj hp
 exact q y _ _ I' (λk hk=>R9 (Ne.symm hk)) (λb' x e m=>by rw[B0 (λz=>m (by rw[hp,z];simp))];exact s0 _ _ e) (λb' hb=>I0.lists b' (.inr ⟨j,_,hj,rfl,hb⟩)) (L2.Same.tr (K1 s0) g) (h2.mono g)
theorem aF0 {i j:Nat}{R:AE}(hx:EX K t ρ j d ρ')(hi:ρ[i]? = some (.own ds))(hi':ρ'[i]? = some (.own ds))(hl:ds.length<sizeLine)(hn:R.nx (ρ'.set i (.own (ds++[d]))))(nb:S7 ρ'=true:=by rfl) :
  W K (aP4 (tBM K "list" aD9 (D9 i) (E1 t S6))) ρ R:=λS B D σ H o I s=>by
 obtain ⟨p,hp,a,xs,b,c⟩:=I.own i ds hi;refine⟨_,a,.inl ⟨rfl,xs,SqL.of b⟩,?_⟩;refine hx S B σ H o I _ λv H' o' I' _ _ _ _ r=>?_
 obtain ⟨p',hp',a',xs',b',c'⟩:=I'.own i ds hi';rw[a]at a';cases a';refine⟨_,xs',v,rfl,rfl,b',by rw[c'.length];exact hl,?_⟩
 exact s.nx _ σ _ _ (I'.upd hi' hp' (c'.append (.cons r .nil)) (L6 nb)) hn
theorem bH7 {i j:Nat}{π:List Nat}{R:AE}(hp:AtP K ta ρ i π)(hx:EX K t ρ j d ρ')(hij:i≠j)(hj:∃x,ρ[j]? = some x/\x.os=true)(hi:ρ[i]? = some (.tr u0))(hi':ρ'[i]? = some (.tr u0))(hu:u0.at π=some (.lst us))(hl:us.length<sizeLine)(hn:R.nx (ρ'.set i (.tr (u0.put π (.lst (us++[.leaf d]))))))(nb:S7 ρ'=true:=by rfl) :
  W K (aP4 (tBM K "list" aD9 ta (E1 t S6))) ρ R:=λS B D σ H o I s=>by
 refine hp S B σ H o I u0 _ hi hu _ λv0 v H1 s1 a f=>?_
 have ⟨L,A,C,f1,f2,f3⟩:=f
 cases f1 with
 | @lst p xs _ M hpp r=>
 refine⟨.inl ⟨rfl,_,SqL.of hpp⟩,?_⟩;refine hx S B σ H1 o (I.grow s1) _ λx H2 o' I' ho hk hl2 hz rx=>?_
 obtain ⟨y,hy1,hy2⟩:=hj;have f':=f.mono hz (H':=H2) (λa ys q=>by
  have n:a∉o j:=λz=>by
   obtain ⟨zs,e⟩:=hl2 a z;rcases q with q | ⟨o,q⟩ <;> rw[e]at q <;> cases q
  rcases q with q | ⟨o,q⟩
  ·exact .inl (hk _ _ q n)
  ·exact .inr ⟨o,hk _ _ q n⟩) λb hb=>by
   obtain ⟨zs,e⟩:=(I.grow s1).trL hi b hb;rw[e];exact hk _ _ e λz=>hij (I.inj i j _ y hi hy1 rfl hy2 b hb z)
 rw[<- ho i hij]at f';obtain ⟨ys,e1,e2,o2,J⟩:=aK2 (x:=x) (u:=.leaf d) (Lx:=[]) I' hi' a f' (L2.Same.rf _) (λb z=>nomatch z) .nil (.leaf (rx.mono aX9)) (L6 nb) (λxs=>xs++[x]) (us++[.leaf d]) λxs M Z' H' r1 r2=>⟨M++[],aJ9 r1 r2,λh=>h,λb hb=>hb⟩
 exact⟨p,ys,x,rfl,rfl,e1,by rw[e2];exact hl,s.nx _ σ _ o2 J hn⟩
theorem Env.frz {S:Addr->Prop}{B H:Hp}{σ:St}{o:Nat->List Addr}{i:Nat}{x:Sl}(I:Env K S B H σ ρ o)(hi:ρ[i]? = some x)(hx:x=.own ds/\d=.list ds\/∃u,x=.tr u/\d=u.data):Env K S B H σ (ρ.set i (.val d)) o:=by
 have hos:x.os=true:=by rcases hx with ⟨rfl,_⟩ | ⟨u,rfl,_⟩ <;> rfl
 have hlt:i<ρ.length:=(Ab0.mp hi).1
 have at_:∀{j:Nat} {y:Sl},y≠.val d->(ρ.set i (.val d))[j]? = some y->i≠j/\ρ[j]? = some y:=λ{j y} hy h=>by
  rw[List.getElem?_set]at h;by_cases c:i=j
  ·rw[if_pos c,if_pos (by omega)]at h
   exact absurd (Ab4 h).symm hy
  ·rw[if_neg c]at h;exact⟨c,h⟩
 have nd:∀{y:Sl},y.os=true->y≠.val d:=λ{y} h e=>by rw[e]at h;cases h
 have g:Same (hid (D2 ρ o S) H) (hid (D2 (ρ.set i (.val d)) o S) H):=D4 (L2.Same.rf _) λb z _=>aI5 rfl z
 have vis:∀b∈o i,hid (D2 (ρ.set i (.val d)) o S) H b=H b:=λb hb=>by
  obtain ⟨xs,e⟩:=I.lists b (.inr ⟨i,x,hi,hos,hb⟩);rw[e];refine hid_some.mpr ⟨λz=>?_,e⟩
  rcases z with z | ⟨j,y,h,hy,hb'⟩
  ·obtain ⟨ys,e'⟩:=I.sl b z;rw[I.new i x hi hos b hb]at e';cases e'
  ·obtain ⟨c,h⟩:=at_ (nd hy) h;exact c (I.inj i j x y hi h hos hy b hb hb')
 have lists:∀b,D2 (ρ.set i (.val d)) o S b->∃xs,H b=some (.lst xs):=λb z=>I.lists b (aI5 rfl z)
 refine⟨by simp[I.len],I.base,I.sl,λj y h hy=>I.new j y (at_ (nd hy) h).2 hy,λj k y z h h' hy hz=>I.inj j k y z (at_ (nd hy) h).2 (at_ (nd hz) h').2 hy hz,λj es h=>?_,λj d' h=>?_,λj d' h=>?_,λj t h=>?_⟩
 ·obtain ⟨c,h⟩:=at_ (nd rfl) h;obtain ⟨p,o',a,xs,b,r'⟩:=I.own j es h;exact⟨p,o',a,xs,b,r'.mono g⟩
 ·by_cases c:i=j
  ·subst c;rw[List.getElem?_set_self hlt]at h;cases h;rcases hx with ⟨rfl,rfl⟩ | ⟨u,rfl,rfl⟩
   ·obtain ⟨p,o',a,xs,b,r'⟩:=I.own i ds hi;exact⟨_,a,.lst (SqL.of (by rw[vis p (by rw[o'];simp)];exact b)) (r'.mono g)⟩
   ·obtain ⟨_,v,a,b⟩:=I.tr i u hi;exact⟨v,a,bG1 X2 (λ_ _ q=>z7 lists q) g u vis b⟩
  ·rw[Ad0 c]at h;obtain ⟨v,a,b⟩:=I.val j d' h;exact⟨v,a,b.mono g⟩
 ·obtain ⟨c,h⟩:=at_ (by simp) h
  exact I.bor j d' h
 ·obtain ⟨c,h⟩:=at_ (nd rfl) h;obtain ⟨n,v,a,b⟩:=I.tr j t h;exact⟨n,v,a,b.mono g (L2.Same.rf _)⟩
theorem bY9 {i:Nat}{t:TS}{R:AE}(hi:ρ[i]? = some (.own ds))(h:W K t (ρ.set i (.val (.list ds))) R):W K t ρ R:=λS B D σ H o I s=>h S B D σ H o (I.frz hi (.inl ⟨rfl,rfl⟩)) s
theorem bR0 {i:Nat}{t:TS}{R:AE}(hi:ρ[i]? = some (.tr u))(h:W K t (ρ.set i (.val u.data)) R):W K t ρ R:=λS B D σ H o I s=>h S B D σ H o (I.frz (ds:=[]) hi (.inr ⟨u,rfl,rfl⟩)) s
theorem u4 {α:Type}{f:α->OT}{g:α->PyData}(h:∀a,(f a).data=g a):∀l:List α,OT.datas (l.map f)=l.map g
 | []=>rfl
 | a::l=>by simp[OT.datas,h a,u4 h l]
end
end LV
namespace LV
open PySem PySem.Spec PyProof.Rows L2
def bJ6 (K:PySem.W.Frag):R2:=λx y H Q=>∃l b xs zs,x=.ref l/\y=.ref b/\SqL K H l xs/\SqL K H b zs/\xs.length+zs.length<=sizeLine/\∀p,H p=none->Q (.ref p) (upd H p (.lst (xs++zs)))
theorem M7 {X:Cx}(K:PySem.W.Frag)(h:X.K=K:=by rfl):OpR X (binaryOp .Add) (bJ6 K):=by
 subst h;intro pins s σ H x y v u Q I rx ry h;obtain ⟨l,b,xs,zs,rfl,rfl,hH,hB,hz,q⟩:=h;cases rx;cases ry;obtain ⟨its,r,⟨⟨cls,dd,data,sl⟩,n,ho,hc,hdd,hd⟩,_⟩:=I.list hH;obtain ⟨its2,r2,⟨⟨cls2,dd2,data2,sl2⟩,n2,ho2,hc2,hdd2,hd2⟩,_⟩:=I.list hB;simp only at hc hd hc2 hd2;subst hc hd hc2 hd2;have e:its.toArray++its2.toArray=(its++its2).toArray:=by simp
 have hl:=r.length
 have hl2:=r2.length
 refine concat_meets ⟨_,ho,rfl⟩ ⟨_,ho2,rfl⟩ noFill_list_add seq_list_add PySem.F.slot_list_add PySem.F.entry_list_add (PySem.F.args_list_add_2 _ _) (list_addW l b its.toArray its2.toArray n n2 dd dd2 sl sl2 (by simp;omega)) ⟨ho,ho2,?_⟩
 rw[e];exact⟨.ref _,_,I.lnew (t':=s.toks) (r.append r2) (by rw[Ab7];omega),rfl,q _ I.fresh⟩
end LV
namespace LV
open PySem L2
section
variable {K:PySem.W.Frag}{ρ ρ' ρ1:List Sl}{m m':Bool}{t ta tb tc:TE}{d d':PyData}{ds es:List PyData}
theorem o4:∀{l l':List PyData},J8 (l++l')=(J8 l&&J8 l')
 | [],l'=>by simp[J8]
 | a::l,l'=>by simp[J8,o4 (l:=l),Bool.and_assoc]
theorem bA0:∀{l:List PyData},J8 l=true->∀d∈l,imm d=true
 | [],_,d,hd=>by simp at hd
 | a::l,h,d,hd=>by
  simp[J8]at h
  rcases Aa1.mp hd with rfl | z
  ·exact h.1
  ·exact bA0 h.2 d z
theorem aL0 (ha:E K false ta ρ (.list ds))(hb:E K false tb ρ (.list es))(hi:J8 ds=true)(hi':J8 es=true)(hl:ds.length+es.length<=sizeLine:=by first | decide | (unfold PySem.sizeLine;simp;done)):EF K (tOp (bJ6 K) ta tb) ρ (ds++es):=λS B σ H o I Q q=>
 ha S B σ H o I _ λx H1 s1 rx=>hb S B σ H1 o (I.grow s1) _ λy H2 s2 ry=>by
  cases rx with
  | @lst a xs _ sa ra=>
  cases ry with
  | @lst b ys _ sb rb=>
  have ra':=ra.mono s2
  refine⟨a,b,xs,ys,rfl,rfl,S4 s2 sa,sb,by rw[ra.length,rb.length];exact hl,λp hp=>q p _ _ (L2.Same.tr s1 (L2.Same.tr s2 (D5 hp))) (T8 (L2.Same.tr s1 s2) hp) C0 (s9 ((I.grow s1).grow s2).lists hp (ra'.append rb) ?_)⟩
  rw[o4,hi,hi'];rfl
def O (K:PySem.W.Frag)(t:TO)(ρ:List Sl)(i:Option Int):Prop:=
 ∀(S:Addr->Prop) (B:Hp) (σ:St) (H:Hp) (o:Nat->List Addr),Env K S B H σ ρ o->∀Q,(∀H',Same H H'->Q i H')->t σ H Q
def y7 (xs:List PyData)(lo hi:Option Int):List PyData:=List.take (HT.sIx xs.length xs.length hi-HT.sIx xs.length 0 lo) (List.drop (HT.sIx xs.length 0 lo) xs)
theorem Reps.cut {H:Hp}{xs:List V}(r:Reps K H xs ds)(lo hi:Option Int):Reps K H (aT6 xs lo hi) (y7 ds lo hi):=by
 unfold aT6 y7;rw[r.length];exact(r.drop _).take _
theorem P6 (lo hi:Option Int)(h:J8 ds=true):J8 (y7 ds lo hi)=true:=by
 refine aU8 λd hd=>?_
 have:d∈ds:=List.mem_of_mem_drop (List.mem_of_mem_take hd)
 exact bA0 h d this
theorem aG1:O K aI9 ρ none:=λS B σ H o I Q q=>q H (L2.Same.rf _)
theorem m8 {i:Int}(h:E K false t ρ (.int i)):O K (bI3 t) ρ (some i):=λS B σ H o I Q q=>h S B σ H o I _ λv H' s r=>by
 cases r
 exact⟨i,rfl,q H' s⟩
theorem aF2 {n:Nat}(h:n<=ds.length):y7 ds (some (n:Int)) none=ds.drop n:=by
 unfold y7 HT.sIx;simp only[];rw[if_neg (by omega),Ac8,Nat.min_eq_left h]
 exact List.take_of_length_le (by simp)
theorem aJ5 {n:Nat}(h:n<=ds.length):y7 ds none (some (n:Int))=ds.take n:=by
 unfold y7 HT.sIx;simp only[];rw[if_neg (by omega),Ac8,Nat.min_eq_left h]
 simp
theorem bD8 {tl th:TO}{lo hi:Option Int}(ha:E K false ta ρ (.list ds))(hl:O K tl ρ lo)(hh:O K th ρ hi)(him:J8 ds=true):EF K (tSl (bS1 K) ta tl th) ρ (y7 ds lo hi):=λS B σ H o I Q q=>
 ha S B σ H o I _ λx H1 s1 rx=>hl S B σ H1 o (I.grow s1) _ λH2 s2=>hh S B σ H2 o ((I.grow s1).grow s2) _ λH3 s3=>by
  cases rx with
  | @lst a xs _ sa ra=>
  have s13:=L2.Same.tr s2 s3
  exact⟨a,xs,rfl,S4 s13 sa,λp hp=>q p _ _ (L2.Same.tr s1 (L2.Same.tr s13 (D5 hp))) (T8 (L2.Same.tr s1 s13) hp) C0 (s9 (I.grow (L2.Same.tr s1 s13)).lists hp ((ra.mono s13).cut lo hi) (P6 lo hi him))⟩
end
end LV
namespace L2
open PySem
def cA3:Expr->Bool
 | .Starred ..=>false
 | _=>true
theorem m9 {e:Expr}{es:List Expr}{env:Env}(h:cA3 e=true):starEach (e::es) env=(false,eval e env)::starEach es env:=by
 cases e <;> first | rfl | cases h
theorem A0 {X:Cx}{e:Expr}{es:List Expr}{te:TE}{t:TA}(ha:PE X e te)(hr:PA X es t)(h:cA3 e=true:=by rfl):PA X (e::es) (E1 te t):=cF2 ha hr (m9 h)
theorem aN6 {X:Cx}(K:PySem.W.Frag){e:Expr}{te:TE}{p1 p2 pos1 pos2:Pos}(hc:X.calm=true)(hg1:Gl X "list")(hm1:X.mg "list" = none)(hg2:Gl X "reversed")(hm2:X.mg "reversed" = none)(he:PE X e te)(hK:X.K=K:=by rfl)(h:cA3 e=true:=by rfl) :
  PE X (.Call (.Name "list" p1) [.Call (.Name "reversed" p2) [e] [] pos2] [] pos1) (LV.bI7 K te):=
 LV.bB8 K hc hg1 hm1 hg2 hm2 he hK (m9 h) (m9 rfl)
end L2
namespace TT
def lin:List Nat->Nat->Nat->Prop
 | c::d::l,a,b=>(a=c/\b=d)\/lin (d::l) a b
 | _,_,_=>False
theorem bJ3 (a b:Nat):lin [] a b↔False:=Iff.rfl
theorem t9 (c a b:Nat):lin [c] a b↔False:=Iff.rfl
theorem B8 (c d:Nat)(l:List Nat)(a b:Nat):lin (c::d::l) a b↔(a=c/\b=d)\/lin (d::l) a b:=Iff.rfl
theorem C5 (c:Nat)(w:List Nat)(a b:Nat):∀u:List Nat,lin (u++c::w) a b↔lin (u++[c]) a b\/lin (c::w) a b
 | []=>by simp[t9]
 | [d]=>by simp[B8,t9]
 | d::e::u=>by
  have ih:=C5 c w a b (e::u)
  simp only[Ab6,B8]at ih ⊢;rw[ih];grind
theorem R6 {a b c:Nat}:∀{u:List Nat},lin (u++[c]) a b->a∈u
 | [],h=>h.elim
 | [d],h=>by
  rcases (B8 ..).mp h with ⟨rfl,rfl⟩ | h
  ·simp
  ·exact h.elim
 | d::e::u,h=>by
  rcases (B8 ..).mp h with ⟨rfl,rfl⟩ | h
  ·simp
  ·exact Ad4 _ (R6 (u:=e::u) h)
theorem V1 {a b c:Nat}{u:List Nat}(h:lin (c::u) a b):b∈u:=by
 induction u generalizing c with
 | nil=>exact h.elim
 | cons d u ih=>
  rcases (B8 ..).mp h with ⟨rfl,rfl⟩ | h
  ·simp
  ·exact Ad4 _ (ih h)
theorem u8 {l:List Nat}{a b:Nat}(h:lin l a b):a∈l/\b∈l:=by
 induction l with
 | nil=>exact h.elim
 | cons c l ih=>
  refine⟨?_,Ad4 _ (V1 h)⟩;cases l with
  | nil=>exact h.elim
  | cons d l=>
   rcases (B8 ..).mp h with ⟨rfl,rfl⟩ | h
   ·simp
   ·exact Ad4 _ (ih h).1
def adj (l:List Nat)(a b:Nat):Prop:=lin (l++l.take 1) a b
structure Edit (row row':Nat->List Nat)(v x y:Nat)(L C R:List Nat):Prop where
 nd:∀q,(row q).Nodup
 self:∀q,q∉row q
 tri:∀q a b,adj (row q) a b->adj (row a) b q
 v2:v≠2
 fresh:∀q,v∉row q
 two:row 2=L++x::(C++y::R)
 newv:row' v=x::(C++[y,2])
 oldv:row v=[]
 new2:row' 2=L++x::v::y::R
 rx:∃u z w,row x=u++z::2::w/\row' x=u++z::v::2::w
 ry:∃u w,row y=u++2::w/\row' y=u++2::v::w
 rc:∀c∈C,∃u z w,row c=u++z::2::w/\row' c=u++z::v::w
 rest:∀q,q≠2->q≠v->q≠x->q≠y->q∉C->row' q=row q
section
variable {row row':Nat->List Nat}{v x y:Nat}{L C R:List Nat}
def EE (x y:Nat)(C:List Nat)(a b:Nat):Prop:=lin (x::(C++[y])) a b
def W (x y:Nat)(C:List Nat)(q a b:Nat):Prop:=(q=2/\EE x y C a b)\/(b=2/\EE x y C q a)\/(a=2/\EE x y C b q)
def W' (v x y:Nat)(C:List Nat)(q a b:Nat):Prop:=(q=v/\EE x y C a b)\/(b=v/\EE x y C q a)\/(a=v/\EE x y C b q) \/
 (q=2/\a=x/\b=v)\/(q=x/\a=v/\b=2)\/(q=v/\a=2/\b=x)\/(q=2/\a=v/\b=y)\/(q=v/\a=y/\b=2)\/(q=y/\a=2/\b=v)
theorem o9 {a b:Nat}(h:EE x y C a b):(a=x\/a∈C)/\(b∈C\/b=y):=by
 have h1:=R6 (u:=x::C) h
 have h2:=V1 h
 exact⟨by simpa using h1,by simpa using h2⟩
theorem Edit.facts (E:Edit row row' v x y L C R):(x≠y/\x≠2/\y≠2/\x≠v/\y≠v)/\(∀c∈C,c≠x/\c≠y/\c≠2/\c≠v)/\(L++x::(C++y::R)).Nodup:=by
 have h:=E.nd 2
 have h2:=E.self 2
 have hv:=E.fresh 2
 rw[E.two]at h h2 hv;refine⟨?_,?_,h⟩
 ·grind
 ·intro c hc;grind
theorem cW9 (E:Edit row row' v x y L C R)(a b:Nat):adj (row' 2) a b↔(adj (row 2) a b/\¬W x y C 2 a b)\/W' v x y C 2 a b:=by
 obtain ⟨⟨f1,f2,f3,f4,f5⟩,fc,nd⟩:=E.facts;unfold adj;rw[E.two,E.new2];have t1:(L++x::(C++y::R)).take 1=(L++[x]).take 1:=by cases L <;> simp
 have t2:(L++x::v::y::R).take 1=(L++[x]).take 1:=by cases L <;> simp
 rw[t1,t2];generalize ht:(L++[x]).take 1=t;have htm:∀c∈t,c∈L++[x]:=λc hc=>by rw[<- ht]at hc;exact List.mem_of_mem_take hc
 have e1:L++x::(C++y::R)++t=L++x::(C++y::(R++t)):=by simp
 have e2:L++x::v::y::R++t=L++x::v::y::(R++t):=by simp
 have e3:x::(C++y::(R++t))=(x::C)++y::(R++t):=by simp
 rw[e1,e2,C5 x (v::y::(R++t)) a b L,C5 x (C++y::(R++t)) a b L,e3,C5 y _ a b (x::C),B8 x v,B8 v y];have e4:lin ((x::C)++[y]) a b↔EE x y C a b:=Iff.rfl;rw[e4];have hm := @o9 x y C;have g1:lin (L++[x]) a b->¬EE x y C a b:=λh q=>by
  have:=(u8 h).2
  have:=(hm q).2
  grind
 have g2:lin (y::(R++t)) a b->¬EE x y C a b:=λh q=>by
  have h2:=(hm q).1
  have h3:a∈y::R:=by
   match t,ht with
   | [],_=>
    rcases Ac5 R with e | ⟨R',z,e⟩
    ·subst e;exact h.elim
    ·subst e
     have:=R6 (u:=y::R') (by simpa using h)
     simp at this ⊢;try grind
   | [z],_=>exact R6 (u:=y::R) h
   | z::z'::t',e=>
    have:=congrArg List.length e
    simp at this
  grind
 have w2:W x y C 2 a b↔EE x y C a b:=by
  unfold W;constructor
  ·rintro (⟨_,h⟩ | ⟨_,h⟩ | ⟨_,h⟩)
   ·exact h
   ·have:=(hm h).1;grind
   ·have:=(hm h).2;grind
  ·exact λh=>.inl ⟨rfl,h⟩
 have w2':W' v x y C 2 a b↔(a=x/\b=v)\/(a=v/\b=y):=by
  unfold W';have hv:=E.v2;constructor
  ·rintro (⟨h,_⟩ | ⟨_,h⟩ | ⟨_,h⟩ | h | h | h | h | h | h)
   ·exact absurd h.symm hv
   ·have:=(hm h).1;grind
   ·have:=(hm h).2;grind
   all_goals grind
  ·grind
 rw[w2,w2'];grind
theorem tk1 {l:List Nat}(h:l≠[]):∃c,l.take 1=[c]/\c∈l:=by
 cases l with
 | nil=>exact absurd rfl h
 | cons c l=>exact⟨c,by simp,by simp⟩
theorem aY5 (E:Edit row row' v x y L C R)(a b:Nat):∃t,(∀c∈t,c∈L++[x])/\t.length=1/\(adj (row 2) a b↔lin (L++[x]) a b\/EE x y C a b\/lin (y::(R++t)) a b):=by
 refine⟨(L++[x]).take 1,λc hc=>List.mem_of_mem_take hc,by simp,?_⟩
 unfold adj;rw[E.two];have t1:(L++x::(C++y::R)).take 1=(L++[x]).take 1:=by cases L <;> simp
 rw[t1];generalize (L++[x]).take 1=t;have e1:L++x::(C++y::R)++t=L++x::(C++y::(R++t)):=by simp
 have e3:x::(C++y::(R++t))=(x::C)++y::(R++t):=by simp
 rw[e1,C5 x (C++y::(R++t)) a b L,e3,C5 y _ a b (x::C)];exact Iff.rfl
theorem j4 (E:Edit row row' v x y L C R){a b:Nat}(h:EE x y C a b):adj (row 2) a b:=by
 obtain ⟨t,_,_,e⟩:=aY5 E a b;exact e.mpr (.inr (.inl h))
theorem bJ0 (E:Edit row row' v x y L C R){a b:Nat}(h:adj (row 2) a b)(ha:a=x\/a∈C):EE x y C a b:=by
 obtain ⟨_,_,nd⟩:=E.facts;obtain ⟨t,ht,hl,e⟩:=aY5 E a b;rcases e.mp h with h | h | h
 ·have:=R6 h;grind
 ·exact h
 ·obtain ⟨z,rfl⟩:∃z,t=[z]:=List.length_eq_one_iff.mp hl
  have:=R6 (u:=y::R) h
  grind
theorem bA5 (E:Edit row row' v x y L C R){a b:Nat}(h:adj (row 2) a b)(hb:b∈C\/b=y):EE x y C a b:=by
 obtain ⟨_,_,nd⟩:=E.facts;obtain ⟨t,ht,hl,e⟩:=aY5 E a b;rcases e.mp h with h | h | h
 ·have:=(u8 h).2;grind
 ·exact h
 ·have:=V1 h
  grind
theorem cQ8 (E:Edit row row' v x y L C R){a b:Nat}:adj (row 2) a b↔adj (row a) b 2:=⟨E.tri _ _ _,λh=>E.tri _ _ _ (E.tri _ _ _ h)⟩
theorem cC7 (E:Edit row row' v x y L C R){a b:Nat}:adj (row 2) a b↔adj (row b) 2 a:=⟨λh=>E.tri _ _ _ (E.tri _ _ _ h),λh=>E.tri _ _ _ h⟩
theorem cW4 (E:Edit row row' v x y L C R)(a b:Nat):adj (row' v) a b↔(adj (row v) a b/\¬W x y C v a b)\/W' v x y C v a b:=by
 obtain ⟨⟨f1,f2,f3,f4,f5⟩,fc,nd⟩:=E.facts;have hv:=E.v2;unfold adj;rw[E.newv,E.oldv];have e:x::(C++[y,2])++(x::(C++[y,2])).take 1=(x::C)++y::[2,x]:=by simp
 rw[e,C5 y [2,x] a b (x::C),B8,B8];have e4:lin ((x::C)++[y]) a b↔EE x y C a b:=Iff.rfl;rw[e4];have hm := @o9 x y C;have h1:∀c,¬EE x y C v c:=λc h=>by have:=(hm h).1;grind
 have h2:∀c,¬EE x y C c v:=λc h=>by have:=(hm h).2;grind
 unfold W'
 simp[bJ3,t9,h1,h2]
 grind
theorem cX2 (E:Edit row row' v x y L C R)(a b:Nat):adj (row' x) a b↔(adj (row x) a b/\¬W x y C x a b)\/W' v x y C x a b:=by
 obtain ⟨⟨f1,f2,f3,f4,f5⟩,fc,nd⟩:=E.facts;have hv:=E.v2;obtain ⟨u,z,w,o,n⟩:=E.rx;have ndx:=E.nd x;have key:∀c,EE x y C x c↔adj (row x) c 2:=λc=>⟨λh=>E.tri _ _ _ (j4 E h),λh=>bJ0 E ((cQ8 E).mpr h) (.inl rfl)⟩
 have hm := @o9 x y C
 have h2:∀c,¬EE x y C c x:=λc h=>by have:=(hm h).2;grind
 have w1:W x y C x a b↔(b=2/\adj (row x) a 2):=by unfold W;simp[f2,h2,key]
 have w2:W' v x y C x a b↔(b=v/\adj (row x) a 2)\/(a=v/\b=2):=by unfold W';simp[f2,f4,f1,h2,key]
 rw[w1,w2];unfold adj;rw[o]at ndx;rw[o,n];have t1:(u++z::2::w).take 1=(u++[z]).take 1:=by cases u <;> simp
 have t2:(u++z::v::2::w).take 1=(u++[z]).take 1:=by cases u <;> simp
 rw[t1,t2];have ht:∀c∈(u++[z]).take 1,c∈u++[z]:=λc hc=>List.mem_of_mem_take hc
 generalize (u++[z]).take 1=t at ht;have e1:u++z::2::w++t=u++z::2::(w++t):=by simp
 have e2:u++z::v::2::w++t=u++z::v::2::(w++t):=by simp
 rw[e1,e2,C5 z (2::(w++t)) a b u,C5 z (v::2::(w++t)) a b u,C5 z (2::(w++t)) a 2 u,B8,B8,B8,B8];have n1:¬lin (u++[z]) a 2:=λh=>by have:=(u8 h).2;grind
 have n2:¬lin (2::(w++t)) a 2:=λh=>by have:=V1 h;grind
 have n3:lin (u++[z]) a b->b≠2:=λh e=>n1 (e▸h)
 have n4:lin (2::(w++t)) a b->b≠2:=λh e=>n2 (e▸h)
 grind
theorem cX3 (E:Edit row row' v x y L C R)(a b:Nat):adj (row' y) a b↔(adj (row y) a b/\¬W x y C y a b)\/W' v x y C y a b:=by
 obtain ⟨⟨f1,f2,f3,f4,f5⟩,fc,nd⟩:=E.facts;have hv:=E.v2;obtain ⟨u,w,o,n⟩:=E.ry;have ndy:=E.nd y;have key:∀c,EE x y C c y↔adj (row y) 2 c:=λc=>⟨λh=>(cC7 E).mp (j4 E h),λh=>bA5 E ((cC7 E).mpr h) (.inr rfl)⟩
 have hm := @o9 x y C
 have h2:∀c,¬EE x y C y c:=λc h=>by have:=(hm h).1;grind
 have w1:W x y C y a b↔(a=2/\adj (row y) 2 b):=by unfold W;simp[f3,h2,key]
 have w2:W' v x y C y a b↔(a=v/\adj (row y) 2 b)\/(a=2/\b=v):=by unfold W';simp[f3,f5,Ne.symm f1,h2,key]
 rw[w1,w2];unfold adj;rw[o]at ndy;rw[o,n];have t1:(u++2::w).take 1=(u++[2]).take 1:=by cases u <;> simp
 have t2:(u++2::v::w).take 1=(u++[2]).take 1:=by cases u <;> simp
 rw[t1,t2];obtain ⟨h,ht,hh⟩:=tk1 (l:=u++[2]) (by simp)
 rw[ht];have e1:u++2::w++[h]=u++2::(w++[h]):=by simp
 have e2:u++2::v::w++[h]=u++2::v::(w++[h]):=by simp
 rw[e1,e2];obtain ⟨z,w',ez⟩:∃z w',w++[h]=z::w':=by cases w with
  | nil=>exact⟨h,[],rfl⟩
  | cons c w=>exact⟨c,w++[h],rfl⟩
 have n2:∀b,¬lin (z::w') 2 b:=λb q=>by rw[<- ez]at q;have:=R6 q;grind
 have n1:∀b,¬lin (u++[2]) 2 b:=λb q=>by have:=R6 q;grind
 rw[ez,C5 2 (z::w') a b u,C5 2 (v::z::w') a b u,C5 2 (z::w') 2 b u,B8,B8,B8,B8];have n3:lin (u++[2]) a b->a≠2:=λh e=>n1 b (e▸h)
 have n4:lin (z::w') a b->a≠2:=λh e=>n2 b (e▸h)
 have:=n1 b
 have:=n2 b
 grind
theorem cW2 (E:Edit row row' v x y L C R){c:Nat}(hc:c∈C)(a b:Nat):adj (row' c) a b↔(adj (row c) a b/\¬W x y C c a b)\/W' v x y C c a b:=by
 obtain ⟨⟨f1,f2,f3,f4,f5⟩,fc,nd⟩:=E.facts;obtain ⟨g1,g2,g3,g4⟩:=fc c hc;have hv:=E.v2;obtain ⟨u,z,w,o,n⟩:=E.rc c hc;have ndc:=E.nd c;have key1:∀d,EE x y C c d↔adj (row c) d 2:=λd=>⟨λh=>E.tri _ _ _ (j4 E h),λh=>bJ0 E ((cQ8 E).mpr h) (.inr hc)⟩
 have key2:∀d,EE x y C d c↔adj (row c) 2 d:=λd=>⟨λh=>(cC7 E).mp (j4 E h),λh=>bA5 E ((cC7 E).mpr h) (.inl hc)⟩
 have w1:W x y C c a b↔(b=2/\adj (row c) a 2)\/(a=2/\adj (row c) 2 b):=by unfold W;simp[g3,key1,key2]
 have w2:W' v x y C c a b↔(b=v/\adj (row c) a 2)\/(a=v/\adj (row c) 2 b):=by unfold W';simp[g1,g2,g3,g4,key1,key2]
 rw[w1,w2];have fr:v∉row c:=E.fresh c;unfold adj;rw[o]at ndc fr;rw[o,n];have t1:(u++z::2::w).take 1=(u++[z]).take 1:=by cases u <;> simp
 have t2:(u++z::v::w).take 1=(u++[z]).take 1:=by cases u <;> simp
 rw[t1,t2];obtain ⟨h,ht,hh⟩:=tk1 (l:=u++[z]) (by simp)
 rw[ht];have e1:u++z::2::w++[h]=u++z::2::(w++[h]):=by simp
 have e2:u++z::v::w++[h]=u++z::v::(w++[h]):=by simp
 rw[e1,e2];obtain ⟨k,w',ez⟩:∃k w',w++[h]=k::w':=by cases w with
  | nil=>exact⟨h,[],rfl⟩
  | cons c w=>exact⟨c,w++[h],rfl⟩
 have no2:2∉w++[h]:=by grind
 rw[ez]at no2 ⊢;have n1:∀p q,lin (u++[z]) p q->p≠2/\q≠2:=λp q h=>by have:=u8 h;grind
 have n2:∀p q,lin (k::w') p q->p≠2/\q≠2:=λp q h=>by have:=u8 h;grind
 have fl:∀p q r,lin (u++z::r::k::w') p q↔lin (u++[z]) p q\/(p=z/\q=r)\/(p=r/\q=k)\/lin (k::w') p q:=λp q r=>by
  rw[C5 z (r::k::w') p q u,B8,B8]
 rw[fl,fl,fl,fl]
 have:=n1 a b
 have:=n2 a b
 have:=n1 a 2
 have:=n2 a 2
 have:=n1 2 b
 have:=n2 2 b
 grind
theorem cX6 (E:Edit row row' v x y L C R){q:Nat}(h2:q≠2)(hv:q≠v)(hx:q≠x)(hy:q≠y)(hc:q∉C)(a b:Nat):adj (row' q) a b↔(adj (row q) a b/\¬W x y C q a b)\/W' v x y C q a b:=by
 rw[E.rest q h2 hv hx hy hc];have hm := @o9 x y C;have g1:∀c,¬EE x y C q c:=λc h=>by have:=(hm h).1;grind
 have g2:∀c,¬EE x y C c q:=λc h=>by have:=(hm h).2;grind
 unfold W W'
 simp[h2,hv,hx,hy,g1,g2]
theorem bG2 (E:Edit row row' v x y L C R)(q a b:Nat):adj (row' q) a b↔(adj (row q) a b/\¬W x y C q a b)\/W' v x y C q a b:=by
 by_cases h2:q=2
 ·subst h2;exact cW9 E a b
 by_cases hv:q=v
 ·subst hv;exact cW4 E a b
 by_cases hx:q=x
 ·subst hx;exact cX2 E a b
 by_cases hy:q=y
 ·subst hy;exact cX3 E a b
 by_cases hc:q∈C
 ·exact cW2 E hc a b
 ·exact cX6 E h2 hv hx hy hc a b
theorem Edit.tri' (E:Edit row row' v x y L C R)(q a b:Nat)(h:adj (row' q) a b):adj (row' a) b q:=by
 rw[bG2 E]at h ⊢;rcases h with ⟨h,n⟩ | h
 ·refine .inl ⟨E.tri _ _ _ h,?_⟩;unfold W at n ⊢;grind
 ·right
  unfold W' at h ⊢;rcases h with h | h | h | h | h | h | h | h | h
  all_goals obtain ⟨e,h⟩:=h
  all_goals simp[e,h]
theorem Edit.nd' (E:Edit row row' v x y L C R)(q:Nat):(row' q).Nodup:=by
 obtain ⟨⟨f1,f2,f3,f4,f5⟩,fc,nd⟩:=E.facts;have hv:=E.v2;by_cases h2:q=2
 ·subst h2;rw[E.new2]
  have:=E.fresh 2
  rw[E.two]at this;grind
 by_cases hq:q=v
 ·subst hq;rw[E.newv];grind
 by_cases hx:q=x
 ·subst hx;obtain ⟨u,z,w,o,n⟩:=E.rx;have h1:=E.nd q;have h3:=E.fresh q;rw[o]at h1 h3;rw[n];grind
 by_cases hy:q=y
 ·subst hy;obtain ⟨u,w,o,n⟩:=E.ry;have h1:=E.nd q;have h3:=E.fresh q;rw[o]at h1 h3;rw[n];grind
 by_cases hc:q∈C
 ·obtain ⟨u,z,w,o,n⟩:=E.rc q hc;have h1:=E.nd q;have h3:=E.fresh q;rw[o]at h1 h3;rw[n];grind
 ·rw[E.rest q h2 hq hx hy hc];exact E.nd q
theorem Edit.self' (E:Edit row row' v x y L C R)(q:Nat):q∉row' q:=by
 obtain ⟨⟨f1,f2,f3,f4,f5⟩,fc,nd⟩:=E.facts;have hv:=E.v2;have hs:=E.self q;by_cases h2:q=2
 ·subst h2;rw[E.two]at hs;rw[E.new2];grind
 by_cases hq:q=v
 ·subst hq;rw[E.newv];grind
 by_cases hx:q=x
 ·subst hx;obtain ⟨u,z,w,o,n⟩:=E.rx;rw[o]at hs;rw[n];grind
 by_cases hy:q=y
 ·subst hy;obtain ⟨u,w,o,n⟩:=E.ry;rw[o]at hs;rw[n];grind
 by_cases hc:q∈C
 ·obtain ⟨u,z,w,o,n⟩:=E.rc q hc;rw[o]at hs;rw[n];grind
 ·rw[E.rest q h2 hq hx hy hc];exact hs
end
end TT
namespace TT
structure S where
 k:Nat
 path:List Nat
 heap:List Nat
 i0:Nat->List Nat
 i1:Nat->List Nat
 i2:Nat->List Nat
 o0:Nat->Nat
 o1:Nat->Nat
 o2:Nat->Nat
def put {α:Type}(f:Nat->α)(a:Nat)(x:α):Nat->α:=λb=>if b=a then x else f b
theorem B3 {α:Type}{f:Nat->α}{a:Nat}{x:α}:put f a x a=x:=by simp[put]
theorem B5 {α:Type}{f:Nat->α}{a b:Nat}{x:α}(h:b≠a):put f a x b=f b:=by simp[put,h]
def S.row (s:S)(q:Nat):List Nat:=
 if q=0 then 1::(s.i0 0++[2]) else if q=1 then 2::((s.i1 1).reverse++[0]) else if q=2 then s.path.reverse++s.heap
 else if q<s.k+3 then s.o0 q::(s.i2 q++s.o1 q::(s.i0 q++s.o2 q::(s.i1 q).reverse)) else []
def S.first:S:={k:=0,path:=[0],heap:=[1],i0:=λ_=>[],i1:=λ_=>[],i2:=λ_=>[],o0:=λ_=>2,o1:=λ_=>2,o2:=λ_=>2}
def S.h1 (s:S)(a:Nat):List Nat:=(s.path.take a).reverse++s.heap
def S.step (s:S)(a b:Nat):S where
 k:=s.k+1
 path:=(s.k+3)::s.path.drop a
 heap:=(s.h1 a).drop b
 i0:=put s.i0 ((s.path.drop a).headD 0) (s.i0 ((s.path.drop a).headD 0)++[s.k+3])
 i1:=put s.i1 (((s.h1 a).drop b).headD 0) (s.i1 (((s.h1 a).drop b).headD 0)++[s.k+3])
 i2:=put s.i2 (s.k+3) ((s.h1 a).take b)
 o0:=put s.o0 (s.k+3) ((s.path.drop a).headD 0)
 o1:=put s.o1 (s.k+3) (((s.h1 a).drop b).headD 0)
 o2:=λq=>if q=s.k+3 then 2 else if q∈(s.h1 a).take b then s.k+3 else s.o2 q
structure aT3 (s:S):Prop where
 nd:∀q,(s.row q).Nodup
 self:∀q,q∉s.row q
 tri:∀q a b,adj (s.row q) a b->adj (s.row a) b q
 lt:∀q,∀p∈s.row q,p<s.k+3
 pe:∃p,s.path=p++[0]
 he:∃h,s.heap=h++[1]
 bd:∀q,(q∈s.path\/q∈s.heap)->q≠2/\(3<=q->s.o2 q=2)
 emp:∀q,s.k+3<=q->s.i0 q=[]/\s.i1 q=[]
theorem aN1 {s:S}{q:Nat}(h:s.k+3<=q):s.row q=[]:=by
 unfold S.row;rw[if_neg (by omega),if_neg (by omega),if_neg (by omega),if_neg (by omega)]
theorem N6 {s:S}{q:Nat}(h:3<=q)(h':q<s.k+3):s.row q=s.o0 q::(s.i2 q++s.o1 q::(s.i0 q++s.o2 q::(s.i1 q).reverse)):=by
 unfold S.row;rw[if_neg (by omega),if_neg (by omega),if_neg (by omega),if_pos h']
theorem aD5 {s:S}:s.row 2=s.path.reverse++s.heap:=by simp[S.row]
theorem aB6 {s:S}:s.row 0=1::(s.i0 0++[2]):=by simp[S.row]
theorem aL2 {s:S}:s.row 1=2::((s.i1 1).reverse++[0]):=by simp[S.row]
theorem bF0:aT3 S.first where
 nd:=λq=>by
  unfold S.row S.first;dsimp only
  repeat' split
  all_goals simp
  omega
 self:=λq=>by
  unfold S.row S.first;dsimp only
  repeat' split
  all_goals simp
  all_goals omega
 tri:=λq a b h=>by
  have e:∀q a b,adj (S.first.row q) a b↔(q=0/\((a=1/\b=2)\/(a=2/\b=1)))\/(q=1/\((a=2/\b=0)\/(a=0/\b=2)))\/(q=2/\((a=0/\b=1)\/(a=1/\b=0))):=λq a b=>by
   unfold S.row S.first adj;dsimp only
   repeat' split
   all_goals (simp_all[lin])
   all_goals omega
  rw[e]at h ⊢;rcases h with ⟨rfl,⟨rfl,rfl⟩ | ⟨rfl,rfl⟩⟩ | ⟨rfl,⟨rfl,rfl⟩ | ⟨rfl,rfl⟩⟩ | ⟨rfl,⟨rfl,rfl⟩ | ⟨rfl,rfl⟩⟩ <;> decide
 lt:=λq p=>by
  unfold S.row S.first;dsimp only
  repeat' split
  all_goals (simp <;> omega)
 pe:=⟨[],rfl⟩
 he:=⟨[],rfl⟩
 bd:=λq h=>by
  simp only[S.first,Ad8]at h;omega
 emp:=λq _=>⟨rfl,rfl⟩
theorem aU0 {s:S}(I:aT3 s){a b:Nat}(ha:a<s.path.length)(hb:b<a+s.heap.length) :
  ∃x px y hy,s.path.drop a=x::px/\(s.h1 a).drop b=y::hy/\Edit s.row (s.step a b).row (s.k+3) x y px.reverse ((s.h1 a).take b) hy/\aT3 (s.step a b):=by
 obtain ⟨p0,hp0⟩:=I.pe;obtain ⟨h0,hh0⟩:=I.he;obtain ⟨x,px,ex⟩:∃x px,s.path.drop a=x::px:=by
  cases e:s.path.drop a with
  | nil=>have:=List.drop_eq_nil_iff.mp e;omega
  | cons x px=>exact⟨x,px,rfl⟩
 have hl:(s.h1 a).length=a+s.heap.length:=by
  unfold S.h1;simp;omega
 obtain ⟨y,hy,ey⟩:∃y hy,(s.h1 a).drop b=y::hy:=by
  cases e:(s.h1 a).drop b with
  | nil=>have:=List.drop_eq_nil_iff.mp e;omega
  | cons y hy=>exact⟨y,hy,rfl⟩
 have two:s.row 2=px.reverse++x::((s.h1 a).take b++y::hy):=by
  rw[aD5,<- ey,Ad3]
  have:s.path=s.path.take a++x::px:=by rw[<- ex,Ad3]
  conv=>lhs;rw[this]
  unfold S.h1
  simp
 have nd2:=I.nd 2
 have self2:=I.self 2
 have lt2:=I.lt 2
 rw[two]at nd2 self2 lt2;have pl:∃p1,x::px=p1++[0]:=by
  rw[<- ex,hp0];rw[hp0]at ha;simp at ha;rw[List.drop_append_of_le_length (by omega)]
  exact⟨_,rfl⟩
 have hyl:∃h1,y::hy=h1++[1]:=by
  rw[<- ey];unfold S.h1;rw[hh0,<- Ad7]
  have:(p0.length:Nat)+1=s.path.length:=by rw[hp0];simp
  have l1:((s.path.take a).reverse++h0).length=a+h0.length:=by simp;omega
  have l2:s.heap.length=h0.length+1:=by rw[hh0];simp
  rw[List.drop_append_of_le_length (by omega)]
  exact⟨_,rfl⟩
 have one_mem:1∈y::hy:=by obtain ⟨h1,e⟩:=hyl;rw[e];simp
 have zero_mem:0∈x::px:=by obtain ⟨h1,e⟩:=pl;rw[e];simp
 generalize hC:(s.h1 a).take b=C at *;have hCm:∀c∈C,c≠0/\c≠1/\c≠2/\c<s.k+3:=by
  intro c hc;refine⟨?_,?_,?_,lt2 c (by simp[hc])⟩
  ·rintro rfl;grind
  ·rintro rfl;grind
  ·rintro rfl;grind
 have hx:x≠1/\x≠2/\x<s.k+3:=⟨by rintro rfl;grind,by rintro rfl;grind,lt2 x (by simp)⟩
 have hyy:y≠0/\y≠2/\y<s.k+3:=⟨by rintro rfl;grind,by rintro rfl;grind,lt2 y (by simp)⟩
 have bd2:∀q,q∈s.row 2->3<=q->s.o2 q=2:=λq hq h3=>by
  rw[aD5]at hq;simp at hq;exact(I.bd q hq).2 h3
 have o2x:3<=x->s.o2 x=2:=bd2 x (by rw[two];simp)
 have o2y:3<=y->s.o2 y=2:=bd2 y (by rw[two];simp)
 have o2c:∀c∈C,s.o2 c=2:=λc hc=>by
  have:=hCm c hc
  exact bd2 c (by rw[two];simp[hc]) (by omega)
 have xy:x≠y:=by rintro rfl;grind
 have xC:x∉C:=by grind
 have yC:y∉C:=by grind
 have E:Edit s.row (s.step a b).row (s.k+3) x y px.reverse C hy:=by
  refine⟨I.nd,I.self,I.tri,by omega,λq hq=>?_,two,?_,aN1 (Aa7 _),?_,?_,?_,?_,?_⟩
  ·have:=I.lt q _ hq;omega
  ·rw[N6 (by omega) (by simp[S.step])]
   have e1:=I.emp (s.k+3) (Aa7 _)
   simp only[S.step,ex,ey,hC,List.headD_cons,B3,if_true];rw[B5 (by omega),B5 (by omega),e1.1,e1.2]
   simp
  ·rw[aD5];simp only[S.step,ex,ey]
   simp
  ·by_cases x0:x=0
   ·subst x0;rcases Ac5 (1::s.i0 0) with e | ⟨u,z,e⟩
    ·cases e
    ·refine⟨u,z,[],?_,?_⟩
     ·rw[aB6,<- Ab6,e];simp
     ·rw[aB6];simp only[S.step,ex,List.headD_cons,B3];rw[Ad7,<- Ab6,e];simp
   ·have x3:3<=x:=by omega
    rcases Ac5 (s.o0 x::(s.i2 x++s.o1 x::s.i0 x)) with e | ⟨u,z,e⟩
    ·cases e
    ·refine⟨u,z,(s.i1 x).reverse,?_,?_⟩
     ·rw[N6 x3 hx.2.2,o2x x3]
      have:s.o0 x::(s.i2 x++s.o1 x::(s.i0 x++2::(s.i1 x).reverse))=(s.o0 x::(s.i2 x++s.o1 x::s.i0 x))++2::(s.i1 x).reverse:=by simp
      rw[this,e];simp
     ·rw[N6 x3 (by simp[S.step];omega)]
      simp only[S.step,ex,ey,hC,List.headD_cons,B3];rw[B5 (by omega),B5 (by omega),B5 (by omega),B5 xy,if_neg (by omega),if_neg xC,o2x x3]
      have:s.o0 x::(s.i2 x++s.o1 x::(s.i0 x++[s.k+3]++2::(s.i1 x).reverse))=(s.o0 x::(s.i2 x++s.o1 x::s.i0 x))++(s.k+3)::2::(s.i1 x).reverse:=by simp
      rw[this,e];simp
  ·by_cases y1:y=1
   ·subst y1;refine⟨[],(s.i1 1).reverse++[0],?_,?_⟩
    ·rw[aL2];simp
    ·rw[aL2];simp only[S.step,ey,List.headD_cons,B3]
     simp
   ·have y3:3<=y:=by omega
    refine⟨s.o0 y::(s.i2 y++s.o1 y::s.i0 y),(s.i1 y).reverse,?_,?_⟩
    ·rw[N6 y3 hyy.2.2,o2y y3];simp
    ·rw[N6 y3 (by simp[S.step];omega)]
     simp only[S.step,ex,ey,hC,List.headD_cons,B3];rw[B5 (by omega),B5 (by omega),B5 (by omega),B5 (Ne.symm xy),if_neg (by omega),if_neg yC,o2y y3]
     simp
  ·intro c hc;obtain ⟨c0,c1,c2,ck⟩:=hCm c hc;have c3:3<=c:=by omega
   have cx:c≠x:=λe=>xC (e▸hc)
   have cy:c≠y:=λe=>yC (e▸hc)
   rcases Ac5 (s.o0 c::(s.i2 c++s.o1 c::s.i0 c)) with e | ⟨u,z,e⟩
   ·cases e
   ·refine⟨u,z,(s.i1 c).reverse,?_,?_⟩
    ·rw[N6 c3 ck,o2c c hc]
     have:s.o0 c::(s.i2 c++s.o1 c::(s.i0 c++2::(s.i1 c).reverse))=(s.o0 c::(s.i2 c++s.o1 c::s.i0 c))++2::(s.i1 c).reverse:=by simp
     rw[this,e];simp
    ·rw[N6 c3 (by simp[S.step];omega)]
     simp only[S.step,ex,ey,hC,List.headD_cons];rw[B5 (by omega),B5 (by omega),B5 (by omega),B5 cx,B5 cy,if_neg (by omega),if_pos hc]
     have:s.o0 c::(s.i2 c++s.o1 c::(s.i0 c++(s.k+3)::(s.i1 c).reverse))=(s.o0 c::(s.i2 c++s.o1 c::s.i0 c))++(s.k+3)::(s.i1 c).reverse:=by simp
     rw[this,e];simp
  ·intro q q2 qv qx qy qC;by_cases q0:q=0
   ·subst q0;rw[aB6,aB6];simp only[S.step,ex,List.headD_cons];rw[B5 qx]
   by_cases q1:q=1
   ·subst q1;rw[aL2,aL2];simp only[S.step,ey,List.headD_cons];rw[B5 qy]
   by_cases qk:q<s.k+3
   ·rw[N6 (by omega) qk,N6 (by omega) (by simp[S.step];omega)]
    simp only[S.step,ex,ey,hC,List.headD_cons];rw[B5 qv,B5 qv,B5 qv,B5 qx,B5 qy,if_neg qv,if_neg qC]
   ·rw[aN1 (s:=s.step a b) (by show s.k+1+3<=q;omega),aN1 (s:=s) (by omega)]
 refine⟨x,px,y,hy,ex,ey,E,⟨E.nd',E.self',E.tri',λq p hp=>?_,?_,?_,λq hq=>?_,λq hq=>?_⟩⟩
 ·show p<s.k+1+3
  by_cases h2:q=2
  ·subst h2;rw[E.new2]at hp
   have:=lt2 p
   grind
  by_cases hv:q=s.k+3
  ·subst hv;rw[E.newv]at hp
   have:=lt2 p
   grind
  by_cases qx:q=x
  ·subst qx;obtain ⟨u,z,w,o,n⟩:=E.rx
   have:=I.lt q p
   rw[o]at this;rw[n]at hp;grind
  by_cases qy:q=y
  ·subst qy;obtain ⟨u,w,o,n⟩:=E.ry
   have:=I.lt q p
   rw[o]at this;rw[n]at hp;grind
  by_cases qC:q∈C
  ·obtain ⟨u,z,w,o,n⟩:=E.rc q qC
   have:=I.lt q p
   rw[o]at this;rw[n]at hp;grind
  ·rw[E.rest q h2 hv qx qy qC]at hp
   have:=I.lt q p hp
   omega
 ·obtain ⟨p1,e⟩:=pl;exact⟨(s.k+3)::p1,by simp only[S.step,ex,e];simp⟩
 ·obtain ⟨h1,e⟩:=hyl;exact⟨h1,by simp only[S.step,ey,e]⟩
 ·have hq':q=s.k+3\/q∈x::px\/q∈y::hy:=by
   simp only[S.step,ex,ey]at hq;simp at hq ⊢;grind
  rcases hq' with rfl | hq'
  ·exact⟨by omega,λ_=>by simp[S.step]⟩
  ·have hm:q∈s.row 2:=by rw[two];grind
   have hnC:q∉C:=by grind
   refine⟨by rintro rfl;exact I.self 2 hm,λh3=>?_⟩
   simp only[S.step,hC];rw[if_neg (by have:=I.lt 2 q hm;omega),if_neg hnC]
   exact bd2 q hm h3
 ·have hq:s.k+1+3<=q:=hq
  have:=I.emp q (by omega)
  simp only[S.step,ex,ey,List.headD_cons];rw[B5 (by omega),B5 (by omega)]
  exact this
end TT
namespace TT
theorem bB2 {f:Nat->Nat}(l:List Nat)(x y:Nat):lin (l.map f) x y↔∃a b,x=f a/\y=f b/\lin l a b:=by
 induction l with
 | nil=>simp[bJ3]
 | cons c l ih=>
  cases l with
  | nil=>simp[t9]
  | cons d l=>
   simp only[Ac7,B8];simp only[Ac7]at ih;rw[ih];constructor
   ·rintro (⟨rfl,rfl⟩ | ⟨a,b,e1,e2,h⟩)
    ·exact⟨c,d,rfl,rfl,.inl ⟨rfl,rfl⟩⟩
    ·exact⟨a,b,e1,e2,.inr h⟩
   ·rintro ⟨a,b,rfl,rfl,⟨rfl,rfl⟩ | h⟩
    ·exact .inl ⟨rfl,rfl⟩
    ·exact .inr ⟨a,b,rfl,rfl,h⟩
theorem bI9 {f:Nat->Nat}(l:List Nat)(x y:Nat):adj (l.map f) x y↔∃a b,x=f a/\y=f b/\adj l a b:=by
 unfold adj;rw[<- bB2]
 simp
theorem i7 (u w:List Nat)(x y:Nat):adj (w++u) x y↔adj (u++w) x y:=by
 cases u with
 | nil=>simp
 | cons a u=>
  cases w with
  | nil=>simp
  | cons b w=>
   unfold adj;have e1:b::w++a::u++(b::w++a::u).take 1=(b::w)++a::(u++[b]):=by simp
   have e2:a::u++b::w++(a::u++b::w).take 1=(a::u)++b::(w++[a]):=by simp
   rw[e1,e2,C5 a (u++[b]) x y (b::w),C5 b (w++[a]) x y (a::u)];simp only[Ab6];exact Or.comm
theorem G7 {l:List Nat}{a b:Nat}(h:adj l a b):a∈l/\b∈l:=by
 have:=u8 h
 simp only[Aa0]at this;exact⟨this.1.elim id List.mem_of_mem_take,this.2.elim id List.mem_of_mem_take⟩
theorem aD6 {l:List Nat}{a:Nat}(h:a∈l):∃b,adj l a b:=by
 obtain ⟨u,w,rfl⟩:=Ad5 h;obtain ⟨b,r,e⟩:∃b r,(w++(u++[a]).take 1)=b::r:=by
  cases w with
  | nil=>cases u with
   | nil=>exact⟨a,[],rfl⟩
   | cons c u=>exact⟨c,[],rfl⟩
  | cons c w=>exact⟨c,_,rfl⟩
 refine⟨b,?_⟩;unfold adj;have t:(u++a::w).take 1=(u++[a]).take 1:=by cases u <;> simp
 rw[t,Ad7,Ab6,e,C5,B8];exact .inr (.inl ⟨rfl,rfl⟩)
theorem bD1 {l:List Nat}{b:Nat}(h:b∈l):∃a,adj l a b:=by
 obtain ⟨u,w,rfl⟩:=Ad5 h;rw[show u++b::w=u++(b::w) from rfl]
 rcases Ac5 (b::w++u) with e | ⟨r,a,e⟩
 ·cases e
 ·refine⟨a,(i7 u (b::w) a b).mp ?_⟩;cases r with
  | nil=>
   have:b::w++u=[a]:=by simpa using e
   have hb:b=a:=by simpa using congrArg List.head? this
   subst hb;rw[this];exact .inl ⟨rfl,rfl⟩
  | cons c r=>
   have hc:b=c:=by simpa using congrArg List.head? e
   subst hc;rw[e];unfold adj
   have:((b::r).concat a)++((b::r).concat a).take 1=(b::r)++a::[b]:=by simp
   rw[this,C5,B8];exact .inr (.inl ⟨rfl,rfl⟩)
theorem aC8 {l:List Nat}(nd:l.Nodup){a b c:Nat}(h1:adj l a b)(h2:adj l a c):b=c:=by
 have ha:=(G7 h1).1
 obtain ⟨u,w,rfl⟩:=Ad5 ha;have r1:=(i7 u (a::w) a b).mpr h1;have r2:=(i7 u (a::w) a c).mpr h2;have nd':(a::w++u).Nodup:=by grind
 unfold adj at r1 r2;generalize w++u=v at *;have e:a::w++u=a::(w++u):=rfl;cases hv:w++u with
 | nil=>
  rw[e,hv]at r1 r2
  simp[lin]at r1 r2
  omega
 | cons d v'=>
  rw[e,hv]at r1 r2 nd';have q:∀z,lin (a::d::v'++List.take 1 (a::d::v')) a z->z=d:=λz hz=>by
   have e2:a::d::v'++List.take 1 (a::d::v')=a::d::(v'++[a]):=by simp
   rw[e2,B8]at hz;rcases hz with h | h
   ·exact h.2
   ·have:=R6 (u:=d::v') (c:=a) (by simpa using h)
    grind
  rw[q b r1,q c r2]
theorem bB5 {l:List Nat}(nd:l.Nodup){a b c:Nat}(h1:adj l a c)(h2:adj l b c):a=b:=by
 have hc:=(G7 h1).2
 obtain ⟨u,w,rfl⟩:=Ad5 hc;have r1:=(i7 u (c::w) a c).mpr h1;have r2:=(i7 u (c::w) b c).mpr h2;have nd':(c::(w++u)).Nodup:=by grind
 have e:c::w++u=c::(w++u):=rfl
 rw[e]at r1 r2;generalize w++u=v at *;unfold adj at r1 r2;rcases Ac5 v with hv | ⟨v',d,hv⟩
 ·subst hv
  simp[lin]at r1 r2
  omega
 ·subst hv;have q:∀z,lin (c::v'.concat d++List.take 1 (c::v'.concat d)) z c->z=d:=λz hz=>by
   have e2:c::v'.concat d++List.take 1 (c::v'.concat d)=(c::v')++d::[c]:=by simp
   rw[e2,C5,B8]at hz;rcases hz with h | h | h
   ·have:=V1 (c:=c) (u:=v'++[d]) h
    simp at nd'
    grind
   ·exact h.1
   ·exact h.elim
  rw[q a r1,q b r2]
end TT
namespace TT
def mn (l:List Nat):Nat:=l.min?.getD 0
theorem cF0 {l:List Nat}(h:l≠[]):mn l∈l/\∀a∈l,mn l<=a:=by
 unfold mn;cases e:l.min? with
 | none=>exact absurd (List.min?_eq_none_iff.mp e) h
 | some m=>exact List.min?_eq_some_iff.mp e
def U6 (l:List Nat):List Nat:=l.drop (l.idxOf (mn l))++l.take (l.idxOf (mn l))
theorem Z3 (l:List Nat):(U6 l).Perm l:=by
 unfold U6;exact(List.perm_append_comm).trans (by rw[Ad3])
theorem aR2 (l:List Nat)(a b:Nat):adj (U6 l) a b↔adj l a b:=by
 unfold U6;rw[i7,Ad3]
theorem aW1 (l:List Nat):(U6 l).length=l.length:=(Z3 l).length_eq
theorem aQ5 {l:List Nat}{a:Nat}:a∈U6 l↔a∈l:=(Z3 l).mem_iff
theorem bB0 {l:List Nat}:(U6 l).Nodup↔l.Nodup:=(Z3 l).nodup_iff
structure Good (n:Nat)(r:Nat->List Nat):Prop where
 nd:∀q,(r q).Nodup
 self:∀q,q∉r q
 tri:∀q a b,adj (r q) a b->adj (r a) b q
 lt:∀q,∀p∈r q,p<n
 hi:∀q,n<=q->r q=[]
 two:∀q,q<n->2<=(r q).length
 out:adj (r 2) 1 0
 conn:∀R:Nat->Prop,R 0->(∀a b,R a->b∈r a->R b)->∀q,q<n->R q
 sum:((List.range n).map λq=>(r q).length).sum+12=6*n
 three:3<=n
theorem Good.sym {n:Nat}{r:Nat->List Nat}(G:Good n r){p q:Nat}(h:q∈r p):p∈r q:=by
 obtain ⟨b,hb⟩:=aD6 h;exact(G7 (G.tri _ _ _ hb)).2
structure bA3 (s:S):Prop where
 two:∀q,q<s.k+3->2<=(s.row q).length
 o0:∀q,3<=q->q<s.k+3->s.o0 q<q/\s.o0 q∈s.row q
 sum:((List.range (s.k+3)).map λq=>(s.row q).length).sum+12=6*(s.k+3)
theorem bI0:bA3 S.first where
 two:=λq h=>by
  have h:q<3:=h
  match q,h with
  | 0,_=>decide
  | 1,_=>decide
  | 2,_=>decide
 o0:=λq h h'=>by
  have h':q<3:=h'
  omega
 sum:=by decide
theorem bG8 {n:Nat}{f g:Nat->Nat}{l:List Nat}(nd:l.Nodup)(hl:∀q∈l,q<n)(h:∀q,q<n->q∉l->f q=g q) :
  ((List.range n).map f).sum+(l.map g).sum=((List.range n).map g).sum+(l.map f).sum:=by
 induction l generalizing f with
 | nil=>
  have:(List.range n).map f=(List.range n).map g:=List.map_congr_left λq hq=>h q (Ab5.mp hq) (by simp)
  simp[this]
 | cons c l ih=>
  have hc:=hl c (by simp)
  have nd':=Aa5.mp nd
  have key:∀(f:Nat->Nat) (x:Nat),((List.range n).map λq=>if q=c then x else f q).sum+f c=((List.range n).map f).sum+x:=by
   intro f x
   clear h ih hl nd nd'
   induction n with
   | zero=>omega
   | succ n ihn=>
    rw[List.range_succ,Ad2,Ad2,List.sum_append,List.sum_append];by_cases e:c=n
    ·subst e
     have:(List.range c).map (λq=>if q=c then x else f q)=(List.range c).map f:=List.map_congr_left λq hq=>by
      have:=Ab5.mp hq
      rw[if_neg (by omega)]
     rw[this]
     simp
     omega
    ·have:=ihn (by omega)
     simp only[Ac7,List.map_nil,List.sum_cons,List.sum_nil];rw[if_neg (Ne.symm e)];omega
  have k1:=key f (g c)
  have:=ih (f:=λq=>if q=c then g c else f q) nd'.2 (λq hq=>hl q (by simp[hq])) (λq hq hn=>by
   by_cases e:q=c
   ·subst e;simp
   ·simp only[if_neg e];exact h q hq (by simp[e,hn]))
  have e2:(l.map λq=>if q=c then g c else f q)=l.map f:=List.map_congr_left λq hq=>by
   rw[if_neg (by rintro rfl;exact nd'.1 hq)]
  rw[e2]at this;simp only[Ac7,List.sum_cons];omega
end TT
namespace TT
theorem bP4 {s:S}(I:aT3 s)(M:bA3 s){a b:Nat}(ha:a<s.path.length)(hb:b<a+s.heap.length):bA3 (s.step a b):=by
 obtain ⟨x,px,y,hy,ex,ey,E,I'⟩:=aU0 I ha hb;obtain ⟨⟨f1,f2,f3,f4,f5⟩,fc,nd⟩:=E.facts;have hx:x<s.k+3:=I.lt 2 x (by rw[E.two];simp)
 have hyl:y<s.k+3:=I.lt 2 y (by rw[E.two];simp)
 have lx:((s.step a b).row x).length=(s.row x).length+1:=by
  obtain ⟨u,z,w,o,n⟩:=E.rx;rw[o,n];simp;omega
 have ly:((s.step a b).row y).length=(s.row y).length+1:=by
  obtain ⟨u,w,o,n⟩:=E.ry;rw[o,n];simp;omega
 have lc:∀q,q≠2->q≠s.k+3->q≠x->q≠y->((s.step a b).row q).length=(s.row q).length:=λq h2 hv qx qy=>by
  by_cases hc:q∈(s.h1 a).take b
  ·obtain ⟨u,z,w,o,n⟩:=E.rc q hc;rw[o,n];simp
  ·rw[E.rest q h2 hv qx qy hc]
 have l2:((s.step a b).row 2).length=px.length+3+hy.length:=by rw[E.new2];simp;omega
 have g2:(s.row 2).length=px.length+2+((s.h1 a).take b).length+hy.length:=by rw[E.two];simp only[Ab7,List.length_cons,Ae1];omega
 have lv:((s.step a b).row (s.k+3)).length=((s.h1 a).take b).length+3:=by rw[E.newv];simp only[Ab7,List.length_cons,List.length_nil]
 have gv:(s.row (s.k+3)).length=0:=by rw[E.oldv];rfl
 refine⟨λq hq=>?_,λq h3 hq=>?_,?_⟩
 ·have hq:q<s.k+1+3:=hq
  by_cases h2:q=2
  ·rw[h2,l2];omega
  by_cases hv:q=s.k+3
  ·rw[hv,lv];omega
  have:=M.two q (by omega)
  by_cases qx:q=x
  ·rw[qx,lx];rw[qx]at this;omega
  by_cases qy:q=y
  ·rw[qy,ly];rw[qy]at this;omega
  rw[lc q h2 hv qx qy];exact this
 ·have hq':q<s.k+1+3:=hq
  refine⟨?_,by rw[N6 h3 hq];simp⟩
  by_cases hv:q=s.k+3
  ·subst hv;simp only[S.step,ex,List.headD_cons,B3];exact hx
  ·simp only[S.step];rw[B5 hv];exact(M.o0 q h3 (by omega)).1
 ·show((List.range (s.k+1+3)).map λq=>((s.step a b).row q).length).sum+12=6*(s.k+1+3)
  have sc:=bG8 (n:=s.k+1+3) (f:=λq=>((s.step a b).row q).length) (g:=λq=>(s.row q).length) (l:=[2,s.k+3,x,y]) (by
   have:=E.v2
   simp only[Aa5,Aa1,Ac2,or_false,not_or,List.nodup_nil,not_false_eq_true,and_true];exact⟨⟨by omega,Ne.symm f2,Ne.symm f3⟩,⟨Ne.symm f4,Ne.symm f5⟩,f1⟩) (by
   intro q hq;simp only[Aa1,Ac2,or_false]at hq;omega) (by
   intro q hq hn;simp only[Aa1,Ac2,or_false,not_or]at hn;exact lc q hn.1 hn.2.1 hn.2.2.1 hn.2.2.2)
  simp only[Ac7,List.map_nil,List.sum_cons,List.sum_nil]at sc;have e:((List.range (s.k+1+3)).map λq=>(s.row q).length).sum=((List.range (s.k+3)).map λq=>(s.row q).length).sum:=by
   rw[show s.k+1+3=(s.k+3)+1 by omega,List.range_succ,Ad2,List.sum_append]
   simp only[Ac7,List.map_nil,List.sum_cons,List.sum_nil,gv];omega
  have:=M.sum
  rw[l2,lv,lx,ly,g2,gv,e]at sc;omega
theorem bS2 {s:S}(I:aT3 s)(M:bA3 s):Good (s.k+3) s.row where
 nd:=I.nd
 self:=I.self
 tri:=I.tri
 lt:=I.lt
 hi:=λq h=>aN1 h
 two:=M.two
 out:=by
  obtain ⟨p,ep⟩:=I.pe;obtain ⟨h,eh⟩:=I.he;rw[aD5,ep,eh];unfold adj
  have:(p++[0]).reverse++(h++[1])++((p++[0]).reverse++(h++[1])).take 1=(0::p.reverse++h)++1::[0]:=by simp
  rw[this,C5,B8];exact .inr (.inl ⟨rfl,rfl⟩)
 conn:=λR h0 hR q hq=>by
  have r0:∀b∈s.row 0,R b:=λb hb=>hR 0 b h0 hb
  have m1:(1:Nat)∈s.row 0:=by rw[aB6];simp
  have m2:(2:Nat)∈s.row 0:=by rw[aB6];simp
  have sym:∀p q,q∈s.row p->p∈s.row q:=λp q h=>by
   obtain ⟨b,hb⟩:=aD6 h;exact(G7 (I.tri _ _ _ hb)).2
  induction q using Nat.strongRecOn with
  | _ q ih=>
   by_cases h3:3<=q
   ·obtain ⟨h1,h2⟩:=M.o0 q h3 hq;exact hR _ _ (ih _ h1 (by omega)) (sym _ _ h2)
   ·have:q=0\/q=1\/q=2:=by omega
    rcases this with rfl | rfl | rfl
    ·exact h0
    ·exact r0 1 m1
    ·exact r0 2 m2
 sum:=M.sum
 three:=by omega
structure Nm (n:Nat)(f:Nat->Nat):Prop where
 lt:∀v,v<n->f v<n
 inj:∀v w,v<n->w<n->f v=f w->v=w
 c0:f 0=0
 c1:f 1=1
 c2:f 2=2
theorem aQ0 {l:List Nat}(nd:l.Nodup):∀{m:List Nat},(∀x∈l,x∈m)->l.length<=m.length:=by
 induction l with
 | nil=>intro m _;simp
 | cons a l ih=>
  intro m h;have nd':=Aa5.mp nd;have hm:a∈m:=h a (by simp)
  have:=ih nd'.2 (m:=m.erase a) λx hx=>(List.mem_erase_of_ne (by rintro rfl;exact nd'.1 hx)).mpr (h x (by simp[hx]))
  have hl:=List.length_erase_of_mem hm
  have:=List.length_pos_of_mem hm
  simp only[List.length_cons];omega
theorem Nm.surj {n:Nat}{f:Nat->Nat}(h:Nm n f)(q:Nat)(hq:q<n):∃v,v<n/\f v=q:=by
 have nd:((List.range n).map f).Nodup:=by
  rw[Ac6,Ae0];refine List.Pairwise.imp_of_mem ?_ (Ac6.mp List.nodup_range);intro a b ha hb hne e;exact hne (h.inj a b (Ab5.mp ha) (Ab5.mp hb) e)
 have sub:(List.range n).map f ⊆ List.range n:=λx hx=>by
  obtain ⟨v,hv,rfl⟩:=Aa8.mp hx;exact Ab5.mpr (h.lt v (Ab5.mp hv))
 have:q∈(List.range n).map f:=Classical.byContradiction λhn=>by
  have hq':=Ab5.mpr hq
  have:=aQ0 nd (m:=(List.range n).erase q) λx hx=>(List.mem_erase_of_ne (by rintro rfl;exact hn hx)).mpr (sub hx)
  have hl:=List.length_erase_of_mem hq'
  have:=List.length_pos_of_mem hq'
  simp only[Aa3,List.length_range]at *;omega
 obtain ⟨v,hv,e⟩:=Aa8.mp this;exact⟨v,Ab5.mp hv,e⟩
theorem Good.named {n:Nat}{r r':Nat->List Nat}{f:Nat->Nat}(G:Good n r)(F:Nm n f)(h:∀v,v<n->r' (f v)=U6 ((r v).map f))(hh:∀q,n<=q->r' q=[]):Good n r':=by
 have bG2:∀v,v<n->∀x y,adj (r' (f v)) x y↔∃a b,x=f a/\y=f b/\adj (r v) a b:=λv hv x y=>by rw[h v hv,aR2,bI9]
 have mem':∀v,v<n->∀x,x∈r' (f v)↔∃a,a∈r v/\x=f a:=λv hv x=>by
  rw[h v hv,aQ5,Aa8];exact⟨λ⟨a,h1,h2⟩=>⟨a,h1,h2.symm⟩,λ⟨a,h1,h2⟩=>⟨a,h1,h2.symm⟩⟩
 have up:∀q,n<=q\/∃v,v<n/\f v=q:=λq=>by
  by_cases hq:n<=q
  ·exact .inl hq
  ·exact .inr (F.surj q (by omega))
 have len:∀v,v<n->(r' (f v)).length=(r v).length:=λv hv=>by rw[h v hv,aW1,Aa3]
 refine⟨λq=>?_,λq=>?_,λq a b hab=>?_,λq p hp=>?_,hh,λq hq=>?_,?_,λR h0 hR q hq=>?_,?_,G.three⟩
 ·rcases up q with hq | ⟨v,hv,rfl⟩
  ·rw[hh q hq];simp
  ·rw[h v hv,bB0,Ac6,Ae0];refine List.Pairwise.imp_of_mem ?_ (Ac6.mp (G.nd v));intro a b ha hb hne e;exact hne (F.inj a b (G.lt v a ha) (G.lt v b hb) e)
 ·rcases up q with hq | ⟨v,hv,rfl⟩
  ·rw[hh q hq];simp
  ·intro hm;obtain ⟨a,ha,e⟩:=(mem' v hv _).mp hm;exact G.self v (F.inj v a hv (G.lt v a ha) e▸ha)
 ·rcases up q with hq | ⟨v,hv,rfl⟩
  ·rw[hh q hq]at hab;exact hab.elim
  ·obtain ⟨c,d,rfl,rfl,hcd⟩:=(bG2 v hv _ _).mp hab;exact(bG2 c (G.lt v c (G7 hcd).1) _ _).mpr ⟨d,v,rfl,rfl,G.tri _ _ _ hcd⟩
 ·rcases up q with hq | ⟨v,hv,rfl⟩
  ·rw[hh q hq]at hp;exact absurd hp (by simp)
  ·obtain ⟨a,ha,rfl⟩:=(mem' v hv _).mp hp;exact F.lt a (G.lt v a ha)
 ·obtain ⟨v,hv,rfl⟩:=F.surj q hq;rw[len v hv];exact G.two v hv
 ·have:=G.three
  have:=(bG2 2 (by omega) 1 0).mpr ⟨1,0,F.c1.symm,F.c0.symm,G.out⟩
  rwa [F.c2]at this
 ·obtain ⟨v,hv,rfl⟩:=F.surj q hq
  have:=G.three
  refine G.conn (λv=>v<n->R (f v)) (λ_=>by rw[F.c0];exact h0) (λa b ha hb hbn=>?_) v hv hv
  by_cases han:a<n
  ·exact hR _ _ (ha han) ((mem' a han _).mpr ⟨b,hb,rfl⟩)
  ·rw[G.hi a (by omega)]at hb;exact absurd hb (by simp)
 ·have p:((List.range n).map f).Perm (List.range n):=by
   refine(List.perm_ext_iff_of_nodup ?_ List.nodup_range).mpr λq=>?_
   ·rw[Ac6,Ae0];refine List.Pairwise.imp_of_mem ?_ (Ac6.mp List.nodup_range);intro a b ha hb hne e;exact hne (F.inj a b (Ab5.mp ha) (Ab5.mp hb) e)
   ·constructor
    ·intro hq;obtain ⟨v,hv,rfl⟩:=Aa8.mp hq;exact Ab5.mpr (F.lt v (Ab5.mp hv))
    ·intro hq;obtain ⟨v,hv,rfl⟩:=F.surj q (Ab5.mp hq);exact Aa8.mpr ⟨v,Ab5.mpr hv,rfl⟩
  have e1:=(p.map λq=>(r' q).length).sum_nat
  have e2:((List.range n).map f).map (λq=>(r' q).length)=(List.range n).map λv=>(r v).length:=by
   rw[Ae2];exact List.map_congr_left λv hv=>len v (Ab5.mp hv)
  rw[e2]at e1;rw[<- e1];exact G.sum
end TT
namespace TT
def pv (F:Nat->Nat):Nat->Nat
 | 0=>0
 | i+1=>F i
def gst (F G:Nat->Nat):Nat->S
 | 0=>S.first
 | i+1=>(gst F G i).step (F i-pv F i) (G i-pv G i)
structure Rws (F G:Nat->Nat)(m:Nat):Prop where
 f1:∀i,i<m->pv F i<=F i
 f2:∀i,i<m->F i<=i
 g1:∀i,i<m->pv G i<=G i
 g2:∀i,i<m->G i<=F i
structure cW3 (F G:Nat->Nat)(i:Nat):Prop where
 inv:aT3 (gst F G i)
 more:bA3 (gst F G i)
 k:(gst F G i).k=i
 p:(gst F G i).path.length+pv F i=1+i
 h:(gst F G i).heap.length+pv G i=1+pv F i
 le:pv F i<=i
 le2:pv G i<=pv F i
theorem O8 {F G:Nat->Nat}{m:Nat}(R:Rws F G m):∀i,i<=m->cW3 F G i
 | 0,_=>⟨bF0,bI0,rfl,rfl,rfl,Aa7 _,Aa7 _⟩
 | i+1,hi=>by
  have I:=O8 R i (by omega)
  have f1:=R.f1 i (by omega)
  have f2:=R.f2 i (by omega)
  have g1:=R.g1 i (by omega)
  have g2:=R.g2 i (by omega)
  have h1:=I.p
  have h2:=I.h
  have ha:F i-pv F i<(gst F G i).path.length:=by omega
  have hb:G i-pv G i<(F i-pv F i)+(gst F G i).heap.length:=by omega
  obtain ⟨x,px,y,hy,ex,ey,E,I'⟩:=aU0 I.inv ha hb;refine⟨I',bP4 I.inv I.more ha hb,?_,?_,?_,?_,g2⟩
  ·show(gst F G i).k+1=i+1
   rw[I.k]
  ·show(((gst F G i).k+3)::(gst F G i).path.drop (F i-pv F i)).length+F i=1+(i+1)
   rw[List.length_cons,List.length_drop];omega
  ·show(((gst F G i).h1 (F i-pv F i)).drop (G i-pv G i)).length+G i=1+F i
   rw[List.length_drop];unfold S.h1;rw[Ab7,Ae1,Ad1];omega
  ·show F i<=i+1
   omega
theorem bD3 {F G:Nat->Nat}{m:Nat}(R:Rws F G m):Good (m+3) (gst F G m).row:=by
 have I:=O8 R m (Aa7 _)
 have:=bS2 I.inv I.more
 rwa [I.k]at this
end TT
namespace TT
inductive Wy (o:Nat->Nat):Nat->List Nat->Prop where
 | corner {q:Nat}:q<3->Wy o q [q]
 | step {q:Nat} {l:List Nat}:3<=q->Wy o (o q) l->Wy o q (q::l)
theorem aN9 (F G:Nat->Nat):∀i,(gst F G i).k=i
 | 0=>rfl
 | i+1=>by show(gst F G i).k+1=i+1;rw[aN9 F G i]
def pa (F G:Nat->Nat)(v:Nat):List Nat:=(gst F G (v-2)).path.tail
def hp (F G:Nat->Nat)(v:Nat):List Nat:=(gst F G (v-2)).heap
theorem V0 (F G:Nat->Nat)(i:Nat):(gst F G (i+1)).path=(i+3)::pa F G (i+3):=by
 show((gst F G i).k+3)::(gst F G i).path.drop (F i-pv F i)=_
 rw[aN9];rfl
theorem bK0 (F G:Nat->Nat)(i:Nat):pa F G (i+3)=(gst F G i).path.drop (F i-pv F i):=rfl
theorem cN2 (F G:Nat->Nat)(i:Nat):(gst F G (i+1)).o0 (i+3)=(pa F G (i+3)).headD 0:=by
 show put (gst F G i).o0 ((gst F G i).k+3) _ (i+3)=_
 rw[aN9,B3];rfl
theorem cM7 (F G:Nat->Nat)(i:Nat):(gst F G (i+1)).o1 (i+3)=(hp F G (i+3)).headD 0:=by
 show put (gst F G i).o1 ((gst F G i).k+3) _ (i+3)=_
 rw[aN9,B3];rfl
theorem cF9 (F G:Nat->Nat)(i:Nat):∀j,i<j->(gst F G j).o0 (i+3)=(pa F G (i+3)).headD 0
 | 0,h=>by omega
 | j+1,h=>by
  by_cases e:i=j
  ·subst e;exact cN2 F G i
  ·rw[<- cF9 F G i j (by omega)]
   show put (gst F G j).o0 ((gst F G j).k+3) _ (i+3)=_
   rw[aN9,B5 (by omega)]
theorem cG3 (F G:Nat->Nat)(i:Nat):∀j,i<j->(gst F G j).o1 (i+3)=(hp F G (i+3)).headD 0
 | 0,h=>by omega
 | j+1,h=>by
  by_cases e:i=j
  ·subst e;exact cM7 F G i
  ·rw[<- cG3 F G i j (by omega)]
   show put (gst F G j).o1 ((gst F G j).k+3) _ (i+3)=_
   rw[aN9,B5 (by omega)]
theorem cG4 (F G:Nat->Nat):∀j q,3<=q->q<j+3->(gst F G j).o2 q=2\/(q<(gst F G j).o2 q/\(gst F G j).o2 q<j+3)
 | 0,q,h,h'=>by omega
 | j+1,q,h,h'=>by
  have e:(gst F G (j+1)).o2 q=if q=(gst F G j).k+3 then 2 else if q∈((gst F G j).h1 (F j-pv F j)).take (G j-pv G j) then(gst F G j).k+3 else(gst F G j).o2 q:=rfl
  rw[e,aN9];by_cases e1:q=j+3
  ·simp[e1]
  ·rw[if_neg e1]
   have:=cG4 F G j q h (by omega)
   split
   ·omega
   ·omega
def Ch (F G:Nat->Nat)(l:List Nat):Prop:=∀u x r,l=u++x::r->3<=x->r=pa F G x
theorem Ch.drop {F G:Nat->Nat}{l:List Nat}(h:Ch F G l)(a:Nat):Ch F G (l.drop a):=λu x r e hx=>by
 refine h (l.take a++u) x r ?_ hx;rw[Ad7,<- e,Ad3]
theorem bM0 (F G:Nat->Nat):∀i,Ch F G (gst F G i).path
 | 0=>by
  intro u x r e hx;have e:[0]=u++x::r:=e;cases u with
  | nil=>simp at e;omega
  | cons y u=>simp at e
 | i+1=>by
  intro u x r e hx;rw[V0]at e;cases u with
  | nil=>
   simp at e
   rw[<- e.1,<- e.2]
  | cons y u=>
   simp only[Ab6,List.cons.injEq]at e;exact(bM0 F G i).drop _ u x r (by rw[<- bK0];exact e.2) hx
section
variable {F G:Nat->Nat}{m:Nat}
structure At (F G:Nat->Nat)(i:Nat):Prop where
 pe:∃p,pa F G (i+3)=p++[0]
 he:∃h,hp F G (i+3)=h++[1]
 nd:((i+3)::(pa F G (i+3)++hp F G (i+3))).Nodup
 lt:∀x,x∈pa F G (i+3)\/x∈hp F G (i+3)->x<i+3/\x≠2
theorem aP7 (R:Rws F G m){i:Nat}(hi:i<m):At F G i:=by
 have I:=O8 R (i+1) (by omega)
 have nd:=I.inv.nd 2
 rw[aD5,V0]at nd;have lt:=I.inv.lt 2;rw[aD5,V0,I.k]at lt;have bd:=I.inv.bd;obtain ⟨p,hp'⟩:=I.inv.pe;obtain ⟨h,hh⟩:=I.inv.he;rw[V0]at hp';have nd':((i+3)::(pa F G (i+3)++hp F G (i+3))).Nodup:=by
  have hpm:(((i+3)::pa F G (i+3)).reverse++(gst F G (i+1)).heap).Perm ((i+3)::(pa F G (i+3)++hp F G (i+3))):=by
   show(((i+3)::pa F G (i+3)).reverse++(gst F G (i+1)).heap).Perm (((i+3)::pa F G (i+3))++(gst F G (i+1)).heap)
   exact(List.reverse_perm _).append_right _
  exact hpm.nodup_iff.mp nd
 refine⟨?_,⟨h,hh⟩,nd',λx hx=>?_⟩
 ·cases p with
  | nil=>simp at hp'
  | cons y p=>simp only[Ab6,List.cons.injEq]at hp';exact⟨p,hp'.2⟩
 ·have h1:=lt x (by
   rcases hx with hx | hx
   ·simp[hx]
   ·exact Ac1 _ hx)
  have h2:=(bd x (by
   rcases hx with hx | hx
   ·left;rw[V0];simp[hx]
   ·right;exact hx)).1
  have h3:x≠i+3:=by
   rintro rfl
   have:=(Aa5.mp nd').1
   exact this (Aa0.mpr hx)
  omega
theorem cQ9 (R:Rws F G m){i:Nat}(hi:i<m):∃r,pa F G (i+3)=(gst F G m).o0 (i+3)::r:=by
 rw[cF9 F G i m hi];obtain ⟨p,e⟩:=(aP7 R hi).pe;cases h:pa F G (i+3) with
 | nil=>rw[h]at e;simp at e
 | cons x r=>exact⟨r,rfl⟩
theorem cT6 (R:Rws F G m){i:Nat}(hi:i<m):∃r,hp F G (i+3)=(gst F G m).o1 (i+3)::r:=by
 rw[cG3 F G i m hi];obtain ⟨p,e⟩:=(aP7 R hi).he;cases h:hp F G (i+3) with
 | nil=>rw[h]at e;simp at e
 | cons x r=>exact⟨r,rfl⟩
theorem cX5 (R:Rws F G m):∀v,3<=v->v<m+3->Wy (gst F G m).o0 v (v::pa F G v):=by
 intro v;induction v using Nat.strongRecOn with
 | ind v ih=>
  intro h3 hv;obtain ⟨i,rfl⟩:∃i,v=i+3:=⟨v-3,by omega⟩
  have hi:i<m:=by omega
  have A:=aP7 R hi
  obtain ⟨r,e⟩:=cQ9 R hi;generalize ex:(gst F G m).o0 (i+3)=x at e;refine .step h3 ?_;rw[ex,e];have hx:=A.lt x (.inl (by rw[e];simp))
  have nd:=A.nd
  obtain ⟨p,pe⟩:=A.pe;obtain ⟨h,he⟩:=A.he;by_cases c:x<3
  ·have:r=[]:=by
    have h0:x=0:=by
     have:x≠1:=by
      rintro rfl;rw[e,he]at nd;simp at nd
     omega
    subst h0;rw[e]at pe nd;cases p with
    | nil=>simpa using pe
    | cons y p=>
     simp only[Ab6,List.cons.injEq]at pe;rw[pe.2]at nd;simp at nd
   rw[this];exact .corner c
  ·have hc:=(bM0 F G i).drop (F i-pv F i)
   rw[<- bK0,e]at hc;rw[hc [] x r rfl (by omega)]
   exact ih x (by omega) (by omega) (by omega)
theorem cX1 (R:Rws F G m):∀v,3<=v->v<m+3->∃t,Wy (gst F G m).o1 v (v::t)/\(v::t).Nodup/\(∀x∈t,x<v/\x≠2/\x∉pa F G v)/\∃p,v::t=p++[1]:=by
 intro v;induction v using Nat.strongRecOn with
 | ind v ih=>
  intro h3 hv;obtain ⟨i,rfl⟩:∃i,v=i+3:=⟨v-3,by omega⟩
  have hi:i<m:=by omega
  have A:=aP7 R hi
  obtain ⟨r,e⟩:=cT6 R hi;generalize ex:(gst F G m).o1 (i+3)=x at e;have hx:=A.lt x (.inr (by rw[e];simp))
  have nd:=A.nd
  have xn:x∉pa F G (i+3):=λhm=>by
   rw[e]at nd
   have:=(Aa4.mp (Aa5.mp nd).2).2.2 x hm x (by simp)
   exact this rfl
  obtain ⟨p,pe⟩:=A.pe;by_cases c:x<3
  ·have x1:x=1:=by
    have:x≠0:=by
     rintro rfl;exact xn (by rw[pe];simp)
    omega
   subst x1;refine⟨[1],.step h3 (by rw[ex];exact .corner c),by simp,λx hx'=>?_,[i+3],rfl⟩
   simp at hx';subst hx'
   exact⟨hx.1,by omega,xn⟩
  ·obtain ⟨t,w,nt,ht,q,hq⟩:=ih x (by omega) (by omega) (by omega)
   refine⟨x::t,.step h3 (by rw[ex];exact w),?_,λy hy=>?_,(i+3)::q,by rw[hq];rfl⟩
   ·refine Aa5.mpr ⟨λhm=>?_,nt⟩
    rcases Aa1.mp hm with z | z
    ·omega
    ·have:=(ht _ z).1;omega
   ·rcases Aa1.mp hy with z | z
    ·subst z;exact⟨hx.1,hx.2,xn⟩
    ·obtain ⟨a1,a2,a3⟩:=ht y z;refine⟨by omega,a2,λhm=>a3 ?_⟩
     obtain ⟨j,rfl⟩:∃j,x=j+3:=⟨x-3,by omega⟩
     exact sub (F:=F) (G:=G) (j:=j) (i:=i) (by omega) y (by rw[<- bK0];exact hm) a1
where
 sub {F G:Nat->Nat} {j:Nat}:∀{i:Nat},j<i->∀y,y∈(gst F G i).path.drop (F i-pv F i)->y<j+3->y∈pa F G (j+3)
  | 0,h,_,_,_=>by omega
  | i+1,h,y,hy,hl=>by
   have hy:=List.mem_of_mem_drop hy
   rw[V0]at hy;rcases Aa1.mp hy with z | z
   ·omega
   ·by_cases e:j=i
    ·subst e;exact z
    ·exact sub (i:=i) (by omega) y (by rw[<- bK0];exact z) hl
theorem cW5 (R:Rws F G m):∀n v,m+3-v=n->3<=v->v<m+3->∃t,Wy (gst F G m).o2 v (v::t)/\(v::t).Nodup/\(∀x∈t,(v<x/\x<m+3)\/x=2)/\∃p,v::t=p++[2]:=by
 intro n;induction n using Nat.strongRecOn with
 | ind n ih=>
  intro v hn h3 hv;rcases cG4 F G m v h3 hv with e | ⟨h1,h2⟩
  ·refine⟨[2],.step h3 (by rw[e];exact .corner (by omega)),by simp;omega,λx hx=>.inr (by simpa using hx),[v],rfl⟩
  ·obtain ⟨t,w,nt,ht,q,hq⟩:=ih (m+3-(gst F G m).o2 v) (by omega) ((gst F G m).o2 v) rfl (by omega) h2
   refine⟨(gst F G m).o2 v::t,.step h3 w,?_,λy hy=>?_,v::q,by rw[hq];rfl⟩
   ·refine Aa5.mpr ⟨λhm=>?_,nt⟩
    rcases Aa1.mp hm with z | z
    ·omega
    ·rcases ht _ z with a | a <;> omega
   ·rcases Aa1.mp hy with z | z
    ·exact .inl (by omega)
    ·rcases ht _ z with a | a
     ·exact .inl (by omega)
     ·exact .inr a
theorem cA7 (R:Rws F G m){v:Nat}(h3:3<=v)(hv:v<m+3):∃t0 t1 t2:List Nat,Wy (gst F G m).o0 v (v::t0)/\Wy (gst F G m).o1 v (v::t1)/\Wy (gst F G m).o2 v (v::t2) /\
  (∃p,v::t0=p++[0])/\(∃p,v::t1=p++[1])/\(∃p,v::t2=p++[2])/\(v::(t0++(t1++t2))).Nodup/\∀x∈t0++(t1++t2),x<m+3:=by
 obtain ⟨i,rfl⟩:∃i,v=i+3:=⟨v-3,by omega⟩
 have A:=aP7 R (i:=i) (by omega)
 have w0:=cX5 R _ h3 hv
 obtain ⟨t1,w1,n1,a1,e1⟩:=cX1 R _ h3 hv;obtain ⟨t2,w2,n2,a2,e2⟩:=cW5 R _ _ rfl h3 hv;obtain ⟨p,pe⟩:=A.pe;have n0:(pa F G (i+3)).Nodup:=(Aa4.mp (Aa5.mp A.nd).2).1;have l0:∀x∈pa F G (i+3),x<i+3/\x≠2:=λx hx=>A.lt x (.inl hx)
 refine⟨_,t1,t2,w0,w1,w2,⟨(i+3)::p,by rw[pe];rfl⟩,e1,e2,Aa5.mpr ⟨λhm=>?_,Aa4.mpr ⟨n0,Aa4.mpr ⟨(Aa5.mp n1).2,(Aa5.mp n2).2,λx hx y hy=>?_⟩,λx hx y hy=>?_⟩⟩,λx hx=>?_⟩
 ·rcases Aa0.mp hm with z | z
  ·have:=l0 _ z;omega
  ·rcases Aa0.mp z with z | z
   ·have:=a1 _ z;omega
   ·have:=a2 _ z;omega
 ·have b1:=a1 x hx
  have b2:=a2 y hy
  omega
 ·have b0:=l0 x hx
  rcases Aa0.mp hy with z | z
  ·intro e;subst e;exact(a1 x z).2.2 hx
  ·have:=a2 y z;omega
 ·rcases Aa0.mp hx with z | z
  ·have:=l0 _ z;omega
  ·rcases Aa0.mp z with z | z
   ·have:=a1 _ z;omega
   ·have:=a2 _ z;omega
end
end TT
namespace TT
structure Bt (F G:Nat->Nat)(m:Nat)(f:Nat->Nat)(d t:List (List Nat)):Prop where
 R:Rws F G m
 N:Nm (m+3) f
 dl:d.length=m+3
 dr:∀v,v<m+3->d[f v]? = some (U6 (((gst F G m).row v).map f))
 tl:t.length=m
 tr:∀v,3<=v->v<m+3->t[f v-3]? = some [f ((gst F G m).o0 v),f ((gst F G m).o1 v),f ((gst F G m).o2 v)]
def og (t:List (List Nat))(c q:Nat):Nat:=((t[q-3]?.getD []))[c]?.getD 0
theorem Nm.lo {n:Nat}{f:Nat->Nat}(N:Nm n f)(h:3<=n){q:Nat}(hq:q<n):f q<3↔q<3:=by
 constructor
 ·intro hl;have a0:=N.c0;have a1:=N.c1;have a2:=N.c2;rcases (show f q=0\/f q=1\/f q=2 by omega) with e | e | e
  ·have:=N.inj q 0 hq (by omega) (by omega);omega
  ·have:=N.inj q 1 hq (by omega) (by omega);omega
  ·have:=N.inj q 2 hq (by omega) (by omega);omega
 ·intro hl;have a0:=N.c0;have a1:=N.c1;have a2:=N.c2;rcases (show q=0\/q=1\/q=2 by omega) with e | e | e <;> subst e <;> omega
theorem Wy.map {o o':Nat->Nat}{f:Nat->Nat}{n:Nat}(hlo:∀q,q<n->(f q<3↔q<3))(ho:∀q,3<=q->q<n->o' (f q)=f (o q)){q:Nat}{l:List Nat}(w:Wy o q l)(hl:∀x∈l,x<n):Wy o' (f q) (l.map f):=by
 induction w with
 | @corner q h=>exact .corner ((hlo q (hl q (by simp))).mpr h)
 | @step q l h w ih=>
  have hq:=hl q (by simp)
  refine .step ?_ ?_
  ·have:=hlo q hq;omega
  ·rw[ho q h hq];exact ih λx hx=>hl x (by simp[hx])
theorem aD2 {f:Nat->Nat}{n:Nat}(inj:∀v w,v<n->w<n->f v=f w->v=w){l:List Nat}(nd:l.Nodup)(hl:∀x∈l,x<n):(l.map f).Nodup:=by
 rw[Ac6,Ae0];exact List.Pairwise.imp_of_mem (λ{a b} ha hb hne e=>hne (inj a b (hl a ha) (hl b hb) e)) (Ac6.mp nd)
theorem Bt.ways {F G:Nat->Nat}{m:Nat}{f:Nat->Nat}{d t:List (List Nat)}(B:Bt F G m f d t){q:Nat}(h3:3<=q)(hq:q<m+3):∃t0 t1 t2:List Nat,Wy (og t 0) q (q::t0)/\Wy (og t 1) q (q::t1)/\Wy (og t 2) q (q::t2) /\
  (∃p,q::t0=p++[0])/\(∃p,q::t1=p++[1])/\(∃p,q::t2=p++[2])/\(q::(t0++(t1++t2))).Nodup/\∀x∈t0++(t1++t2),x<m+3:=by
 obtain ⟨v,hv,rfl⟩:=B.N.surj q hq;have v3:3<=v:=by have:=B.N.lo (by omega) hv;omega
 obtain ⟨t0,t1,t2,w0,w1,w2,⟨p0,e0⟩,⟨p1,e1⟩,⟨p2,e2⟩,nd,lt⟩:=cA7 B.R v3 hv;have hlo:∀q,q<m+3->(f q<3↔q<3):=λq hq=>B.N.lo (by omega) hq
 have a0:∀q,3<=q->q<m+3->og t 0 (f q)=f ((gst F G m).o0 q):=λq h h'=>by unfold og;rw[B.tr q h h'];rfl
 have a1:∀q,3<=q->q<m+3->og t 1 (f q)=f ((gst F G m).o1 q):=λq h h'=>by unfold og;rw[B.tr q h h'];rfl
 have a2:∀q,3<=q->q<m+3->og t 2 (f q)=f ((gst F G m).o2 q):=λq h h'=>by unfold og;rw[B.tr q h h'];rfl
 have l0:∀x∈v::t0,x<m+3:=λx hx=>by rcases Aa1.mp hx with rfl | z;exact hv;exact lt x (by simp[z])
 have l1:∀x∈v::t1,x<m+3:=λx hx=>by rcases Aa1.mp hx with rfl | z;exact hv;exact lt x (by simp[z])
 have l2:∀x∈v::t2,x<m+3:=λx hx=>by rcases Aa1.mp hx with rfl | z;exact hv;exact lt x (by simp[z])
 have la:∀x∈v::(t0++(t1++t2)),x<m+3:=λx hx=>by rcases Aa1.mp hx with rfl | z;exact hv;exact lt x z
 refine⟨t0.map f,t1.map f,t2.map f,w0.map hlo a0 l0,w1.map hlo a1 l1,w2.map hlo a2 l2,⟨p0.map f,?_⟩,⟨p1.map f,?_⟩,⟨p2.map f,?_⟩,?_,λx hx=>?_⟩
 ·rw[<- Ac7,e0];simp[B.N.c0]
 ·rw[<- Ac7,e1];simp[B.N.c1]
 ·rw[<- Ac7,e2];simp[B.N.c2]
 ·have:=aD2 B.N.inj nd la
  simpa using this
 ·rw[<- Ad2,<- Ad2]at hx;obtain ⟨y,hy,rfl⟩:=Aa8.mp hx;exact B.N.lt y (lt y hy)
end TT
namespace TT
section
variable {F G:Nat->Nat}{m:Nat}{f:Nat->Nat}{d t:List (List Nat)}
def trn (d:List (List Nat))(q:Nat):List Nat:=d[q]?.getD []
theorem Bt.good (B:Bt F G m f d t):Good (m+3) (trn d):=by
 refine Good.named (bD3 B.R) B.N (λv hv=>?_) λq hq=>?_
 ·unfold trn;rw[B.dr v hv];rfl
 ·unfold trn;rw[Ad6 (by rw[B.dl];exact hq)];rfl
def oc (s:S):Nat->Nat->Nat
 | 0=>s.o0
 | 1=>s.o1
 | _=>s.o2
theorem Bt.og (B:Bt F G m f d t){c v:Nat}(hc:c<3)(h3:3<=v)(hv:v<m+3):og t c (f v)=f (oc (gst F G m) c v):=by
 unfold TT.og;rw[B.tr v h3 hv];rcases (show c=0\/c=1\/c=2 by omega) with e | e | e <;> subst e <;> rfl
theorem bE8 {s:S}{c v:Nat}(hc:c<3)(h3:3<=v)(hv:v<s.k+3):oc s c v∈s.row v:=by
 rw[N6 h3 hv];rcases (show c=0\/c=1\/c=2 by omega) with e | e | e <;> subst e <;> simp[oc]
end
end TT
namespace TT
end TT
namespace TT
variable {F G:Nat->Nat}{m:Nat}
theorem T1 {a b:List Nat}(h:(a++b).Nodup):∀x,x∈a->x∈b->False:=λx h1 h2=>(Aa4.mp h).2.2 x h1 x h2 rfl
structure cS4 (F G:Nat->Nat)(i:Nat):Prop where
 k:(gst F G i).k=i
 a:F i-pv F i<(gst F G i).path.length
 b:G i-pv G i<((gst F G i).h1 (F i-pv F i)).length
 pl:(gst F G i).path.length<=i+1
 hl:((gst F G i).h1 (F i-pv F i)).length<=i+2
 lo:∀x∈((gst F G i).h1 (F i-pv F i)).take (G i-pv G i),3<=x/\x<i+3
 px:∃x r,(gst F G i).path.drop (F i-pv F i)=x::r/\x<i+3/\((gst F G i).i0 x).length<=i+3
 hy:∃y r,((gst F G i).h1 (F i-pv F i)).drop (G i-pv G i)=y::r/\y<i+3/\((gst F G i).i1 y).length<=i+3
 e0:(gst F G i).i0 (i+3)=[]
 e1:(gst F G i).i1 (i+3)=[]
theorem bF5 {l:List Nat}{n:Nat}(nd:l.Nodup)(h:∀x∈l,x<n):l.length<=n:=by
 have:=aQ0 nd (m:=List.range n) λx hx=>Ab5.mpr (h x hx)
 simpa using this
theorem aI3 {s:S}(I:aT3 s)(q:Nat):(s.row q).length<=s.k+3:=bF5 (I.nd q) (I.lt q)
theorem cL2 {s:S}(I:aT3 s){q:Nat}(h:q<s.k+3)(h2:q≠2)(h1:q≠1):(s.i0 q).length<=s.k+3:=by
 have:=aI3 I q
 by_cases h0:q=0
 ·subst h0;rw[aB6]at this;simp at this;omega
 ·rw[N6 (by omega) h]at this;simp at this;omega
theorem cL4 {s:S}(I:aT3 s){q:Nat}(h:q<s.k+3)(h2:q≠2)(h0:q≠0):(s.i1 q).length<=s.k+3:=by
 have:=aI3 I q
 by_cases h1:q=1
 ·subst h1;rw[aL2]at this;simp at this;omega
 ·rw[N6 (by omega) h]at this;simp at this;omega
theorem aV4 (R:Rws F G m){i:Nat}(hi:i<m):cS4 F G i:=by
 have I:=O8 R i (by omega)
 have A:=aP7 R hi
 have f1:=R.f1 i hi
 have f2:=R.f2 i hi
 have g1:=R.g1 i hi
 have g2:=R.g2 i hi
 have h1:=I.p
 have h2:=I.h
 have nd:=I.inv.nd 2
 have lt:=I.inv.lt 2
 rw[aD5]at nd lt;rw[I.k]at lt;have hx1:((gst F G i).h1 (F i-pv F i)).length=(F i-pv F i)+(gst F G i).heap.length:=by
  unfold S.h1;rw[Ab7,Ae1,Ad1];omega
 obtain ⟨p,hp⟩:=A.pe;obtain ⟨h,hh⟩:=A.he;have e1:(gst F G i).path.drop (F i-pv F i)=p++[0]:=by rw[<- hp];rfl
 have e2:((gst F G i).h1 (F i-pv F i)).drop (G i-pv G i)=h++[1]:=by rw[<- hh];rfl
 have memp:∀x,x∈(gst F G i).path\/x∈(gst F G i).heap->x<i+3/\x≠2:=λx hx=>⟨lt x (by rcases hx with hx | hx <;> simp[hx]),(I.inv.bd x hx).1⟩
 have memh:∀x∈(gst F G i).h1 (F i-pv F i),x∈(gst F G i).path.take (F i-pv F i)\/x∈(gst F G i).heap:=λx hx=>by
  unfold S.h1 at hx;simpa using hx
 have memh':∀x∈(gst F G i).h1 (F i-pv F i),x∈(gst F G i).path\/x∈(gst F G i).heap:=λx hx=>(memh x hx).imp List.mem_of_mem_take id
 have ndp:((gst F G i).path.take (F i-pv F i)++(gst F G i).path.drop (F i-pv F i)).Nodup:=by
  rw[Ad3]
  have:=(Aa4.mp nd).1
  exact(List.reverse_perm _).nodup_iff.mp this
 have ndh:((gst F G i).h1 (F i-pv F i)).Nodup:=by
  unfold S.h1;refine Aa4.mpr ⟨?_,(Aa4.mp nd).2.1,λx hx y hy e=>?_⟩
  ·exact(List.reverse_perm _).nodup_iff.mpr (Aa4.mp ndp).1
  ·subst e;exact T1 nd x (by simpa using List.mem_of_mem_take (List.mem_reverse.mp hx)) hy
 refine⟨I.k,by omega,by omega,by omega,by omega,λx hx=>?_,?_,?_,?_,?_⟩
 ·have hxm:=List.mem_of_mem_take hx
  obtain ⟨l1,l2⟩:=memp x (memh' x hxm);refine⟨?_,l1⟩;have n1:x≠1:=λe=>by
   subst e;have nd':=ndh;rw[<- Ad3 (G i-pv G i) ((gst F G i).h1 (F i-pv F i))]at nd';exact T1 nd' 1 hx (by rw[e2];simp)
  have n0:x≠0:=λe=>by
   subst e;have z:0∈(gst F G i).path.drop (F i-pv F i):=by rw[e1];simp
   rcases memh 0 hxm with w | w
   ·exact T1 ndp 0 w z
   ·exact T1 nd 0 (by simpa using List.mem_of_mem_drop z) w
  omega
 ·cases hd:(gst F G i).path.drop (F i-pv F i) with
  | nil=>rw[e1]at hd;simp at hd
  | cons x r=>
   have hm:x∈(gst F G i).path:=List.mem_of_mem_drop (by rw[hd];simp:x∈(gst F G i).path.drop (F i-pv F i))
   obtain ⟨l1,l2⟩:=memp x (.inl hm);refine⟨x,r,rfl,l1,?_⟩;have n1:x≠1:=λe=>by
    subst e;obtain ⟨h',hh'⟩:=I.inv.he;exact T1 nd 1 (by simpa using hm) (by rw[hh'];simp)
   have:=cL2 I.inv (q:=x) (by rw[I.k];exact l1) l2 n1
   rwa [I.k]at this
 ·cases hd:((gst F G i).h1 (F i-pv F i)).drop (G i-pv G i) with
  | nil=>rw[e2]at hd;simp at hd
  | cons y r=>
   have hm:y∈(gst F G i).h1 (F i-pv F i):=List.mem_of_mem_drop (by rw[hd];simp:y∈((gst F G i).h1 (F i-pv F i)).drop (G i-pv G i))
   obtain ⟨l1,l2⟩:=memp y (memh' y hm);refine⟨y,r,rfl,l1,?_⟩;have n0:y≠0:=λe=>by
    subst e;have z:0∈(gst F G i).path.drop (F i-pv F i):=by rw[e1];simp
    rcases memh 0 hm with w | w
    ·exact T1 ndp 0 w z
    ·exact T1 nd 0 (by simpa using List.mem_of_mem_drop z) w
   have:=cL4 I.inv (q:=y) (by rw[I.k];exact l1) l2 n0
   rwa [I.k]at this
 ·exact(I.inv.emp (i+3) (by rw[I.k];omega)).1
 ·exact(I.inv.emp (i+3) (by rw[I.k];omega)).2
theorem bW5 (R:Rws F G m):∀i,i<=m->(gst F G i).i2 2=[]
 | 0,_=>rfl
 | i+1,h=>by
  show put (gst F G i).i2 ((gst F G i).k+3) (((gst F G i).h1 (F i-pv F i)).take (G i-pv G i)) 2=[]
  rw[B5 (by omega)]
  exact bW5 R i (by omega)
end TT
namespace LV
open PySem L2
theorem cF8 {K:PySem.W.Frag}{ρ:List Sl}(ρJ:List Sl){c:TT}{t u:TS}{b:Bool}{R:AE}(h:T K c ρ b)(h1:b=true->W K t ρ {R with nx:=λr=>r=ρJ})(h2:b=false->W K u ρ {R with nx:=λr=>r=ρJ})(hn:R.nx ρJ):W K (cM9 c t u) ρ R:=
 m6 h (λe=>(h1 e).weak (λr z=>by rw[z];exact hn) (λ_ z=>z) (λ_ z=>z) (λ_ z=>z) (λ_ z=>z)) (λe=>(h2 e).weak (λr z=>by rw[z];exact hn) (λ_ z=>z) (λ_ z=>z) (λ_ z=>z) (λ_ z=>z))
def Sl.nb:Sl->Bool
 | .bor _=>false
 | _=>true
theorem Z9 {x:Sl}{r:List Sl}:S7 (x::r)=(x.nb&&S7 r):=by cases x <;> rfl
theorem Q1 {n i:Nat}{d:PyData}(h:(T3 0 n)[i]? = some d):d=.int (i:Int)/\i<n:=by
 unfold T3 at h;have hn:=(Ab0.mp h).1;have hn:i<n:=by simpa using hn
 rw[Aa9,List.getElem?_range hn]at h;refine⟨?_,hn⟩
 have:=(Ab4 h).symm
 simpa using this
theorem O0 {n:Nat}{lo:Int}:(T3 lo n).length=n:=by simp[T3]
def nI (l:List Nat):List PyData:=l.map λ(x:Nat)=>PyData.int (x:Int)
def lN (l:List Nat):PyData:=.list (nI l)
def oN (l:List Nat):OT:=.lst (l.map λ(x:Nat)=>OT.leaf (.int (x:Int)))
def fl (F:Nat->Nat)(m:Nat):List Int:=(List.range m).map λi=>(F i:Int)
def M3 (k:Nat)(o0 o1 o2:Nat->Nat):OT:=.lst ((List.range k).map λj=>oN [o0 (j+3),o1 (j+3),o2 (j+3)])
def E6 (n:Nat)(i0 i1 i2:Nat->List Nat):OT:=.lst ((List.range n).map λq=>.tup [oN (i0 q),oN (i1 q),oN (i2 q)])
theorem D3 (l:List Nat):(nI l).length=l.length:=by simp[nI]
theorem E7 (l:List Nat):J8 (nI l)=true:=Y8 (λ_=>rfl) l
theorem y2 (l l':List Nat):nI (l++l')=nI l++nI l':=by simp[nI]
theorem cL1 (l:List Nat):nI l.reverse=(nI l).reverse:=by simp[nI]
theorem bO0 (l:List Nat):(oN l).data=lN l:=by
 unfold oN lN nI;simp only[OT.data];rw[u4 (g:=λx:Nat=>PyData.int (x:Int)) (λ_=>rfl)]
theorem bQ4 (k:Nat)(o0 o1 o2:Nat->Nat):(M3 k o0 o1 o2).data=.list ((List.range k).map λj=>lN [o0 (j+3),o1 (j+3),o2 (j+3)]):=by
 unfold M3;simp only[OT.data];rw[u4 (λj=>bO0 _)]
theorem bQ2 (n:Nat)(i0 i1 i2:Nat->List Nat):(E6 n i0 i1 i2).data=.list ((List.range n).map λq=>.tuple [lN (i0 q),lN (i1 q),lN (i2 q)]):=by
 unfold E6;simp only[OT.data];rw[u4 (g:=λq=>PyData.tuple [lN (i0 q),lN (i1 q),lN (i2 q)]) (λq=>by simp only[OT.data,OT.datas,bO0])]
theorem bJ8 {F:Nat->Nat}{m i:Nat}(h:i<m):atI ((fl F m).map PyData.int) (i:Int)=some (.int (F i:Int)):=K0 i rfl (by simp[fl,h])
theorem S3 {α:Type}{n q:Nat}{f:Nat->α}(h:q<n):((List.range n).map f)[q]? = some (f q):=by simp[h]
theorem X1 {α:Type}{n q:Nat}{f g:Nat->α}{h:α->α}(hq:q<n)(h1:h (f q)=g q)(h2:∀j,j≠q->f j=g j):((List.range n).map f).modify q h=(List.range n).map g:=by
 rw[Q3 (S3 hq),h1];refine List.ext_getElem? λj=>?_
 rw[List.getElem?_set];by_cases e:q=j
 ·subst e;simp[hq]
 ·rw[if_neg e];by_cases hj:j<n
  ·rw[S3 hj,S3 hj,h2 j (λz=>e z.symm)]
  ·rw[Ad6 (by simp;omega),Ad6 (by simp;omega)]
section
variable {n q k j:Nat}{i0 i1 i2:Nat->List Nat}{o0 o1 o2:Nat->Nat}
theorem aA9 (h:q<n):(E6 n i0 i1 i2).at [q]=some (.tup [oN (i0 q),oN (i1 q),oN (i2 q)]):=by
 show((E6 n i0 i1 i2).kids[q]?).bind _=_
 unfold E6;simp only[OT.kids];rw[S3 h];rfl
theorem cE0 (h:q<n):(E6 n i0 i1 i2).at ([q]++[0])=some (oN (i0 q)):=by rw[aC2 (aA9 h)];rfl
theorem cD7 (h:q<n):(E6 n i0 i1 i2).at ([q]++[1])=some (oN (i1 q)):=by rw[aC2 (aA9 h)];rfl
theorem bK7 (h:q<n):(E6 n i0 i1 i2).at ([q]++[2])=some (oN (i2 q)):=by rw[aC2 (aA9 h)];rfl
theorem cO0 (h:j<k):(M3 k o0 o1 o2).at [j]=some (oN [o0 (j+3),o1 (j+3),o2 (j+3)]):=by
 show((M3 k o0 o1 o2).kids[j]?).bind _=_
 unfold M3;simp only[OT.kids];rw[S3 h];rfl
theorem bY7 (h:q<n)(l:List Nat):(E6 n i0 i1 i2).put ([q]++[0]) (oN l)=E6 n (TT.put i0 q l) i1 i2:=by
 unfold E6;rw[List.singleton_append,OT.put_lst]
 congr 1
 refine X1 h ?_ λj hj=>by simp only[TT.B5 hj]
 rw[OT.put_tup,TT.B3];rfl
theorem bV9 (h:q<n)(l:List Nat):(E6 n i0 i1 i2).put ([q]++[1]) (oN l)=E6 n i0 (TT.put i1 q l) i2:=by
 unfold E6;rw[List.singleton_append,OT.put_lst]
 congr 1
 refine X1 h ?_ λj hj=>by simp only[TT.B5 hj]
 rw[OT.put_tup,TT.B3];rfl
theorem bT9 (h:q<n)(l:List Nat):(E6 n i0 i1 i2).put ([q]++[2]) (oN l)=E6 n i0 i1 (TT.put i2 q l):=by
 unfold E6;rw[List.singleton_append,OT.put_lst]
 congr 1
 refine X1 h ?_ λj hj=>by simp only[TT.B5 hj]
 rw[OT.put_tup,TT.B3];rfl
theorem cD2 (h:j<k)(c:Nat):(M3 k o0 o1 o2).put [j] (oN [o0 (j+3),o1 (j+3),c])=M3 k o0 o1 (TT.put o2 (j+3) c):=by
 unfold M3;rw[OT.put_lst]
 congr 1
 refine X1 h ?_ λi hi=>by simp only[TT.B5 (show i+3≠j+3 by omega)]
 rw[OT.put_nil,TT.B3]
theorem aW3 (l:List Nat)(x:Nat):OT.lst ((l.map λ(x:Nat)=>OT.leaf (.int (x:Int)))++[.leaf (.int (x:Int))])=oN (l++[x]):=by simp[oN]
theorem bU5 (h:q<n)(x:Nat):(E6 n i0 i1 i2).put ([]++[q]++[0]) (.lst (((i0 q).map λ(x:Nat)=>OT.leaf (.int (x:Int)))++[.leaf (.int (x:Int))]))=E6 n (TT.put i0 q (i0 q++[x])) i1 i2:=by
 rw[aW3];exact bY7 h _
theorem bR1 (h:q<n)(x:Nat):(E6 n i0 i1 i2).put ([]++[q]++[1]) (.lst (((i1 q).map λ(x:Nat)=>OT.leaf (.int (x:Int)))++[.leaf (.int (x:Int))]))=E6 n i0 (TT.put i1 q (i1 q++[x])) i2:=by
 rw[aW3];exact bV9 h _
theorem aZ7 (h:q<n)(x:Nat):(E6 n i0 i1 i2).put ([]++[q]++[2]) (.lst (((i2 q).map λ(x:Nat)=>OT.leaf (.int (x:Int)))++[.leaf (.int (x:Int))]))=E6 n i0 i1 (TT.put i2 q (i2 q++[x])):=by
 rw[aW3];exact bT9 h _
theorem bJ9 {α:Type}{f:Nat->α}{q:Nat}{a b:α}:TT.put (TT.put f q a) q b=TT.put f q b:=by
 funext x;by_cases e:x=q
 ·rw[e,TT.B3,TT.B3]
 ·rw[TT.B5 e,TT.B5 e,TT.B5 e]
theorem cA0:OT.lst (((List.range n).map λq=>OT.tup [oN (i0 q),oN (i1 q),oN (i2 q)])++[.tup [.lst [],.lst [],.lst []]])=E6 (n+1) (TT.put i0 n []) (TT.put i1 n []) (TT.put i2 n []):=by
 unfold E6;rw[List.range_succ,Ad2]
 congr 2
 ·refine List.map_congr_left λa ha=>?_
  have:=Ab5.mp ha
  rw[TT.B5 (by omega),TT.B5 (by omega),TT.B5 (by omega)]
 ·simp[TT.B3,oN]
theorem cD9 (a b c:Nat):OT.lst (((List.range k).map λj=>oN [o0 (j+3),o1 (j+3),o2 (j+3)])++[.lst [.leaf (.int (a:Int)),.leaf (.int (b:Int)),.leaf (.int (c:Int))]])=M3 (k+1) (TT.put o0 (k+3) a) (TT.put o1 (k+3) b) (TT.put o2 (k+3) c):=by
 unfold M3;rw[List.range_succ,Ad2]
 congr 2
 ·refine List.map_congr_left λx ha=>?_
  have:=Ab5.mp ha
  rw[TT.B5 (by omega),TT.B5 (by omega),TT.B5 (by omega)]
 ·simp[TT.B3,oN]
end
theorem aD0 {n q:Nat}{f:Nat->PyData}(h:q<n):atI ((List.range n).map f) (q:Int)=some (f q):=K0 q rfl (S3 h)
theorem cA8 {p h:List Nat}{s:TT.S}(e1:s.path=p++[0])(e2:s.heap=h++[1]):s.row 2=0::(p.reverse++h)++[1]:=by
 rw[TT.aD5,e1,e2];simp
section
variable {K:PySem.W.Frag}{ρ:List Sl}{m:Bool}{t ta tb:TE}{l l':List Nat}{ds es:List PyData}
theorem S5 (ha:E K false ta ρ (lN l))(hb:E K false tb ρ (lN l'))(hl:l.length+l'.length<=100000):EF K (tOp (bJ6 K) ta tb) ρ (nI (l++l')):=by
 rw[y2];exact aL0 ha hb (E7 l) (E7 l') (by rw[D3,D3];unfold PySem.sizeLine;omega)
theorem bL8 (ha:E K false ta ρ (lN l)):EF K (bI7 K ta) ρ (nI l.reverse):=by
 rw[cL1];exact cM6 ha (E7 l)
theorem EF.toN {t:TE}(h:EF K t ρ (nI l))(e:l=l'):E K m t ρ (lN l'):=by subst e;exact EF.e' h
end
end LV
set_option maxHeartbeats 4000000
namespace K18
open PySem L2 LV PyProof.Rows
theorem X3 {K:PySem.W.Frag}{pre:List PyData->PyData->Prop}{n:Nat}(h:∀ds d,pre ds d->ds.length=n):∀vs H Q E,spV K pre vs H Q E->vs.length=n:=λvs H Q E ⟨ds,S,d,_,r,p,_⟩=>by
 have e:=r.length
 rw[e];exact h ds d p
def top (i:Nat):Stmt:=PySem.Challenge.pw_threetrees_k18_whole_colours_of_turned_r.main.body.getD i (.Pass ⟨0,0,0,0⟩)
abbrev P0:Stmt:=top 2
abbrev O1:Stmt:=top 4
abbrev Q7:Stmt:=top 5
abbrev Q5:Stmt:=top 6
abbrev V2:Stmt:=top 7
abbrev Q6:Stmt:=top 8
abbrev M2:Stmt:=top 10
abbrev O4:Stmt:=top 11
abbrev O2:Stmt:=top 12
abbrev O7:Stmt:=top 13
abbrev O3:Stmt:=top 14
abbrev N9:Stmt:=top 15
abbrev N0:Stmt:=top 16
abbrev O6:Stmt:=top 17
abbrev K8:Stmt:=top 18
abbrev J6:Stmt:=top 19
abbrev G1:Stmt:=top 20
abbrev E5:Stmt:=top 21
abbrev O5:Stmt:=top 22
abbrev O9:Stmt:=top 23
abbrev M9:Stmt:=top 24
abbrev aS5:Stmt:=top 25
structure Ad where
 d9:Addr
 Z5:FuncData
 j6:Addr
 Z1:FuncData
 n5:Addr
 p7:FuncData
 n6:Addr
 p9:FuncData
 aE6:Addr
 aF6:FuncData
 p5:Addr
 n9:FuncData
 V6:Addr
 W0:FuncData
 e8:Addr
 d5:FuncData
 i5:Addr
 i6:FuncData
 d6:Addr
 g9:FuncData
 Z6:Addr
 j7:FuncData
 e7:Addr
 Z7:FuncData
 X5:Addr
 X4:FuncData
 g6:Addr
 j3:FuncData
 U4:Addr
 U2:FuncData
 T2:Addr
 T0:FuncData
 Q2:Addr
 Q0:FuncData
 P3:Addr
 P2:FuncData
 j5:Addr
 g8:FuncData
 Z4:Addr
 i9:FuncData
 X9:Addr
 X6:FuncData
 bD7:Addr
 aS7:FuncData
structure Tx (K:PySem.W.Frag)(mg:Str->Option Value)(a:Ad):Prop where
 aC0:Fun K "begun_with" "begun_with" P0 a.d9 a.Z5
 aT7:mg "begun_with" = some (.ref a.d9)
 aW4:Binds K a.Z5 ["ring", "first"] []
 aB3:Fun K "second_out" "second_out" O1 a.j6 a.Z1
 aV0:mg "second_out" = some (.ref a.j6)
 aW7:Binds K a.Z1 ["drawing", "arrows", "came", "place"] []
 aH1:Fun K "colour_of" "colour_of" Q7 a.n5 a.p7
 bE1:mg "colour_of" = some (.ref a.n5)
 bD6:Binds K a.p7 ["drawing", "arrows", "p", "q"] []
 p6:Fun K "triple_of" "triple_of" Q5 a.n6 a.p9
 aG7:mg "triple_of" = some (.ref a.n6)
 bA2:Binds K a.p9 ["drawing", "arrows", "place"] []
 t8:Fun K "outs_of" "outs_of" V2 a.aE6 a.aF6
 aF5:mg "outs_of" = some (.ref a.aE6)
 aG3:Binds K a.aF6 ["drawing", "arrows"] []
 W3:Fun K "arrows_of" "arrows_of" Q6 a.p5 a.n9
 t4:mg "arrows_of" = some (.ref a.p5)
 p4:Binds K a.n9 ["outs"] []
 N7:Fun K "_law_cell_at" "_law_cell_at" M2 a.V6 a.W0
 Q8:mg "_law_cell_at" = some (.ref a.V6)
 R4:Binds K a.W0 ["_law_script", "_law_k"] []
 Q9:Fun K "_law_mixed" "_law_mixed" O4 a.e8 a.d5
 U7:mg "_law_mixed" = some (.ref a.e8)
 U8:Binds K a.d5 ["_law_cell", "_law_k"] []
 aC3:Fun K "_law_names" "_law_names" O2 a.i5 a.i6
 aT2:mg "_law_names" = some (.ref a.i5)
 aZ0:Binds K a.i6 ["_law_cell", "_law_m"] []
 aC4:Fun K "_law_grown" "_law_grown" O7 a.d6 a.g9
 aX5:mg "_law_grown" = some (.ref a.d6)
 aY4:Binds K a.g9 ["_law_first", "_law_second"] []
 aE3:Fun K "_law_begun" "_law_begun" O3 a.Z6 a.j7
 aT1:mg "_law_begun" = some (.ref a.Z6)
 aT9:Binds K a.j7 ["_law_turn"] []
 aB1:Fun K "_law_built" "_law_built" N9 a.e7 a.Z7
 aV8:mg "_law_built" = some (.ref a.e7)
 aY9:Binds K a.Z7 ["_law_cell", "_law_cells", "_law_m"] []
 w6:Fun K "_law_arrows" "_law_arrows" N0 a.X5 a.X4
 aO9:mg "_law_arrows" = some (.ref a.X5)
 aO6:Binds K a.X4 ["_law_outs"] []
 aD8:Fun K "_law_whole" "_law_whole" O6 a.g6 a.j3
 aU1:mg "_law_whole" = some (.ref a.g6)
 aX7:Binds K a.j3 ["_law_found"] []
 m5:Fun K "_law_are_rows" "_law_are_rows" K8 a.U4 a.U2
 aI0:mg "_law_are_rows" = some (.ref a.U4)
 aH7:Binds K a.U2 ["_law_thing", "_law_many", "_law_size"] []
 Y5:Fun K "_law_colour_in" "_law_colour_in" J6 a.T2 a.T0
 aE8:mg "_law_colour_in" = some (.ref a.T2)
 aF3:Binds K a.T0 ["_law_outs", "_law_place", "_law_other"] []
 V9:Fun K "_law_round_right" "_law_round_right" G1 a.Q2 a.Q0
 aA3:mg "_law_round_right" = some (.ref a.Q2)
 y9:Binds K a.Q0 ["_law_drawing", "_law_outs", "_law_place"] []
 U5:Fun K "_law_arrows_right" "_law_arrows_right" E5 a.P3 a.P2
 v4:mg "_law_arrows_right" = some (.ref a.P3)
 v6:Binds K a.P2 ["_law_drawing", "_law_outs"] []
 aE1:Fun K "_law_looks" "_law_looks" O5 a.j5 a.g8
 aV2:mg "_law_looks" = some (.ref a.j5)
 aX4:Binds K a.g8 ["_law_drawing", "_law_outs"] []
 aD7:Fun K "_law_rings" "_law_rings" O9 a.Z4 a.i9
 aT4:mg "_law_rings" = some (.ref a.Z4)
 aV7:Binds K a.i9 ["_law_arrows_here"] []
 Y0:Fun K "_law_turned" "_law_turned" M9 a.X9 a.X6
 v8:mg "_law_turned" = some (.ref a.X9)
 w9:Binds K a.X6 ["_law_arrows_here", "_law_ring"] []
 cQ3:Fun K "law" "law" aS5 a.bD7 a.aS7
 cP5:mg "law" = some (.ref a.bD7)
 cX8:Binds K a.aS7 ["_law_script"] []
 bD2:mg "all" = none
 aN2:mg "bool" = none
 T9:mg "enumerate" = none
 aZ6:mg "int" = none
 L5:mg "isinstance" = none
 P1:mg "len" = none
 q9:mg "list" = none
 bB7:mg "min" = none
 G6:mg "range" = none
 T5:mg "reversed" = none
 R8:mg "sorted" = none
 M6:mg "tuple" = none
 J7:∃t,mg "CORNERS" = some (.int 3 t)
theorem tx_mk {K:PySem.W.Frag}{h:Heap}{mg:Str->Option Value}{f0 f1 f2 f3 f4 f5 f6 f7 f8 f9 f10 f11 f12 f13 f14 f15 f16 f17 f18 f19 f20 f21:Addr}(X:K.In h)(G:h.Ns mainGlobals mg)
  {od0 an0:Option Addr} {sl0:Array (Option Value)} {oc0 kV0 dc0 pm0 cd0 ct0:Value}
  (a0:PySem.W.nsIn K mainGlobals "begun_with" = some (some (.ref f0)))
  (l0:K.lookup f0=some ⟨oc0,od0,.func (PySem.W.fnOf "begun_with" "begun_with" (D6 P0) (D0 P0) (A9 P0) .none kV0 dc0 pm0 an0 cd0 ct0),sl0⟩)
  (c0:PySem.W.codeIn K cd0 "begun_with" = true) (k0:PySem.W.keepIn K (.ref f0)=true)
  {od1 an1:Option Addr} {sl1:Array (Option Value)} {oc1 kV1 dc1 pm1 cd1 ct1:Value}
  (a1:PySem.W.nsIn K mainGlobals "second_out" = some (some (.ref f1)))
  (l1:K.lookup f1=some ⟨oc1,od1,.func (PySem.W.fnOf "second_out" "second_out" (D6 O1) (D0 O1) (A9 O1) .none kV1 dc1 pm1 an1 cd1 ct1),sl1⟩)
  (c1:PySem.W.codeIn K cd1 "second_out" = true) (k1:PySem.W.keepIn K (.ref f1)=true)
  {od2 an2:Option Addr} {sl2:Array (Option Value)} {oc2 kV2 dc2 pm2 cd2 ct2:Value}
  (a2:PySem.W.nsIn K mainGlobals "colour_of" = some (some (.ref f2)))
  (l2:K.lookup f2=some ⟨oc2,od2,.func (PySem.W.fnOf "colour_of" "colour_of" (D6 Q7) (D0 Q7) (A9 Q7) .none kV2 dc2 pm2 an2 cd2 ct2),sl2⟩)
  (c2:PySem.W.codeIn K cd2 "colour_of" = true) (k2:PySem.W.keepIn K (.ref f2)=true)
  {od3 an3:Option Addr} {sl3:Array (Option Value)} {oc3 kV3 dc3 pm3 cd3 ct3:Value}
  (a3:PySem.W.nsIn K mainGlobals "triple_of" = some (some (.ref f3)))
  (l3:K.lookup f3=some ⟨oc3,od3,.func (PySem.W.fnOf "triple_of" "triple_of" (D6 Q5) (D0 Q5) (A9 Q5) .none kV3 dc3 pm3 an3 cd3 ct3),sl3⟩)
  (c3:PySem.W.codeIn K cd3 "triple_of" = true) (k3:PySem.W.keepIn K (.ref f3)=true)
  {od4 an4:Option Addr} {sl4:Array (Option Value)} {oc4 kV4 dc4 pm4 cd4 ct4:Value}
  (a4:PySem.W.nsIn K mainGlobals "outs_of" = some (some (.ref f4)))
  (l4:K.lookup f4=some ⟨oc4,od4,.func (PySem.W.fnOf "outs_of" "outs_of" (D6 V2) (D0 V2) (A9 V2) .none kV4 dc4 pm4 an4 cd4 ct4),sl4⟩)
  (c4:PySem.W.codeIn K cd4 "outs_of" = true) (k4:PySem.W.keepIn K (.ref f4)=true)
  {od5 an5:Option Addr} {sl5:Array (Option Value)} {oc5 kV5 dc5 pm5 cd5 ct5:Value}
  (a5:PySem.W.nsIn K mainGlobals "arrows_of" = some (some (.ref f5)))
  (l5:K.lookup f5=some ⟨oc5,od5,.func (PySem.W.fnOf "arrows_of" "arrows_of" (D6 Q6) (D0 Q6) (A9 Q6) .none kV5 dc5 pm5 an5 cd5 ct5),sl5⟩)
  (c5:PySem.W.codeIn K cd5 "arrows_of" = true) (k5:PySem.W.keepIn K (.ref f5)=true)
  {od6 an6:Option Addr} {sl6:Array (Option Value)} {oc6 kV6 dc6 pm6 cd6 ct6:Value}
  (a6:PySem.W.nsIn K mainGlobals "_law_cell_at" = some (some (.ref f6)))
  (l6:K.lookup f6=some ⟨oc6,od6,.func (PySem.W.fnOf "_law_cell_at" "_law_cell_at" (D6 M2) (D0 M2) (A9 M2) .none kV6 dc6 pm6 an6 cd6 ct6),sl6⟩)
  (c6:PySem.W.codeIn K cd6 "_law_cell_at" = true) (k6:PySem.W.keepIn K (.ref f6)=true)
  {od7 an7:Option Addr} {sl7:Array (Option Value)} {oc7 kV7 dc7 pm7 cd7 ct7:Value}
  (a7:PySem.W.nsIn K mainGlobals "_law_mixed" = some (some (.ref f7)))
  (l7:K.lookup f7=some ⟨oc7,od7,.func (PySem.W.fnOf "_law_mixed" "_law_mixed" (D6 O4) (D0 O4) (A9 O4) .none kV7 dc7 pm7 an7 cd7 ct7),sl7⟩)
  (c7:PySem.W.codeIn K cd7 "_law_mixed" = true) (k7:PySem.W.keepIn K (.ref f7)=true)
  {od8 an8:Option Addr} {sl8:Array (Option Value)} {oc8 kV8 dc8 pm8 cd8 ct8:Value}
  (a8:PySem.W.nsIn K mainGlobals "_law_names" = some (some (.ref f8)))
  (l8:K.lookup f8=some ⟨oc8,od8,.func (PySem.W.fnOf "_law_names" "_law_names" (D6 O2) (D0 O2) (A9 O2) .none kV8 dc8 pm8 an8 cd8 ct8),sl8⟩)
  (c8:PySem.W.codeIn K cd8 "_law_names" = true) (k8:PySem.W.keepIn K (.ref f8)=true)
  {od9 an9:Option Addr} {sl9:Array (Option Value)} {oc9 kV9 dc9 pm9 cd9 ct9:Value}
  (a9:PySem.W.nsIn K mainGlobals "_law_grown" = some (some (.ref f9)))
  (l9:K.lookup f9=some ⟨oc9,od9,.func (PySem.W.fnOf "_law_grown" "_law_grown" (D6 O7) (D0 O7) (A9 O7) .none kV9 dc9 pm9 an9 cd9 ct9),sl9⟩)
  (c9:PySem.W.codeIn K cd9 "_law_grown" = true) (k9:PySem.W.keepIn K (.ref f9)=true)
  {od10 an10:Option Addr} {sl10:Array (Option Value)} {oc10 kV10 dc10 pm10 cd10 ct10:Value}
  (a10:PySem.W.nsIn K mainGlobals "_law_begun" = some (some (.ref f10)))
  (l10:K.lookup f10=some ⟨oc10,od10,.func (PySem.W.fnOf "_law_begun" "_law_begun" (D6 O3) (D0 O3) (A9 O3) .none kV10 dc10 pm10 an10 cd10 ct10),sl10⟩)
  (c10:PySem.W.codeIn K cd10 "_law_begun" = true) (k10:PySem.W.keepIn K (.ref f10)=true)
  {od11 an11:Option Addr} {sl11:Array (Option Value)} {oc11 kV11 dc11 pm11 cd11 ct11:Value}
  (a11:PySem.W.nsIn K mainGlobals "_law_built" = some (some (.ref f11)))
  (l11:K.lookup f11=some ⟨oc11,od11,.func (PySem.W.fnOf "_law_built" "_law_built" (D6 N9) (D0 N9) (A9 N9) .none kV11 dc11 pm11 an11 cd11 ct11),sl11⟩)
  (c11:PySem.W.codeIn K cd11 "_law_built" = true) (k11:PySem.W.keepIn K (.ref f11)=true)
  {od12 an12:Option Addr} {sl12:Array (Option Value)} {oc12 kV12 dc12 pm12 cd12 ct12:Value}
  (a12:PySem.W.nsIn K mainGlobals "_law_arrows" = some (some (.ref f12)))
  (l12:K.lookup f12=some ⟨oc12,od12,.func (PySem.W.fnOf "_law_arrows" "_law_arrows" (D6 N0) (D0 N0) (A9 N0) .none kV12 dc12 pm12 an12 cd12 ct12),sl12⟩)
  (c12:PySem.W.codeIn K cd12 "_law_arrows" = true) (k12:PySem.W.keepIn K (.ref f12)=true)
  {od13 an13:Option Addr} {sl13:Array (Option Value)} {oc13 kV13 dc13 pm13 cd13 ct13:Value}
  (a13:PySem.W.nsIn K mainGlobals "_law_whole" = some (some (.ref f13)))
  (l13:K.lookup f13=some ⟨oc13,od13,.func (PySem.W.fnOf "_law_whole" "_law_whole" (D6 O6) (D0 O6) (A9 O6) .none kV13 dc13 pm13 an13 cd13 ct13),sl13⟩)
  (c13:PySem.W.codeIn K cd13 "_law_whole" = true) (k13:PySem.W.keepIn K (.ref f13)=true)
  {od14 an14:Option Addr} {sl14:Array (Option Value)} {oc14 kV14 dc14 pm14 cd14 ct14:Value}
  (a14:PySem.W.nsIn K mainGlobals "_law_are_rows" = some (some (.ref f14)))
  (l14:K.lookup f14=some ⟨oc14,od14,.func (PySem.W.fnOf "_law_are_rows" "_law_are_rows" (D6 K8) (D0 K8) (A9 K8) .none kV14 dc14 pm14 an14 cd14 ct14),sl14⟩)
  (c14:PySem.W.codeIn K cd14 "_law_are_rows" = true) (k14:PySem.W.keepIn K (.ref f14)=true)
  {od15 an15:Option Addr} {sl15:Array (Option Value)} {oc15 kV15 dc15 pm15 cd15 ct15:Value}
  (a15:PySem.W.nsIn K mainGlobals "_law_colour_in" = some (some (.ref f15)))
  (l15:K.lookup f15=some ⟨oc15,od15,.func (PySem.W.fnOf "_law_colour_in" "_law_colour_in" (D6 J6) (D0 J6) (A9 J6) .none kV15 dc15 pm15 an15 cd15 ct15),sl15⟩)
  (c15:PySem.W.codeIn K cd15 "_law_colour_in" = true) (k15:PySem.W.keepIn K (.ref f15)=true)
  {od16 an16:Option Addr} {sl16:Array (Option Value)} {oc16 kV16 dc16 pm16 cd16 ct16:Value}
  (a16:PySem.W.nsIn K mainGlobals "_law_round_right" = some (some (.ref f16)))
  (l16:K.lookup f16=some ⟨oc16,od16,.func (PySem.W.fnOf "_law_round_right" "_law_round_right" (D6 G1) (D0 G1) (A9 G1) .none kV16 dc16 pm16 an16 cd16 ct16),sl16⟩)
  (c16:PySem.W.codeIn K cd16 "_law_round_right" = true) (k16:PySem.W.keepIn K (.ref f16)=true)
  {od17 an17:Option Addr} {sl17:Array (Option Value)} {oc17 kV17 dc17 pm17 cd17 ct17:Value}
  (a17:PySem.W.nsIn K mainGlobals "_law_arrows_right" = some (some (.ref f17)))
  (l17:K.lookup f17=some ⟨oc17,od17,.func (PySem.W.fnOf "_law_arrows_right" "_law_arrows_right" (D6 E5) (D0 E5) (A9 E5) .none kV17 dc17 pm17 an17 cd17 ct17),sl17⟩)
  (c17:PySem.W.codeIn K cd17 "_law_arrows_right" = true) (k17:PySem.W.keepIn K (.ref f17)=true)
  {od18 an18:Option Addr} {sl18:Array (Option Value)} {oc18 kV18 dc18 pm18 cd18 ct18:Value}
  (a18:PySem.W.nsIn K mainGlobals "_law_looks" = some (some (.ref f18)))
  (l18:K.lookup f18=some ⟨oc18,od18,.func (PySem.W.fnOf "_law_looks" "_law_looks" (D6 O5) (D0 O5) (A9 O5) .none kV18 dc18 pm18 an18 cd18 ct18),sl18⟩)
  (c18:PySem.W.codeIn K cd18 "_law_looks" = true) (k18:PySem.W.keepIn K (.ref f18)=true)
  {od19 an19:Option Addr} {sl19:Array (Option Value)} {oc19 kV19 dc19 pm19 cd19 ct19:Value}
  (a19:PySem.W.nsIn K mainGlobals "_law_rings" = some (some (.ref f19)))
  (l19:K.lookup f19=some ⟨oc19,od19,.func (PySem.W.fnOf "_law_rings" "_law_rings" (D6 O9) (D0 O9) (A9 O9) .none kV19 dc19 pm19 an19 cd19 ct19),sl19⟩)
  (c19:PySem.W.codeIn K cd19 "_law_rings" = true) (k19:PySem.W.keepIn K (.ref f19)=true)
  {od20 an20:Option Addr} {sl20:Array (Option Value)} {oc20 kV20 dc20 pm20 cd20 ct20:Value}
  (a20:PySem.W.nsIn K mainGlobals "_law_turned" = some (some (.ref f20)))
  (l20:K.lookup f20=some ⟨oc20,od20,.func (PySem.W.fnOf "_law_turned" "_law_turned" (D6 M9) (D0 M9) (A9 M9) .none kV20 dc20 pm20 an20 cd20 ct20),sl20⟩)
  (c20:PySem.W.codeIn K cd20 "_law_turned" = true) (k20:PySem.W.keepIn K (.ref f20)=true)
  {od21 an21:Option Addr} {sl21:Array (Option Value)} {oc21 kV21 dc21 pm21 cd21 ct21:Value}
  (a21:PySem.W.nsIn K mainGlobals "law" = some (some (.ref f21)))
  (l21:K.lookup f21=some ⟨oc21,od21,.func (PySem.W.fnOf "law" "law" (D6 aS5) (D0 aS5) (A9 aS5) .none kV21 dc21 pm21 an21 cd21 ct21),sl21⟩)
  (c21:PySem.W.codeIn K cd21 "law" = true) (k21:PySem.W.keepIn K (.ref f21)=true)
  (bD2:PySem.W.nsIn K mainGlobals "all" = some none)
  (aN2:PySem.W.nsIn K mainGlobals "bool" = some none)
  (T9:PySem.W.nsIn K mainGlobals "enumerate" = some none)
  (aZ6:PySem.W.nsIn K mainGlobals "int" = some none)
  (L5:PySem.W.nsIn K mainGlobals "isinstance" = some none)
  (P1:PySem.W.nsIn K mainGlobals "len" = some none)
  (q9:PySem.W.nsIn K mainGlobals "list" = some none)
  (bB7:PySem.W.nsIn K mainGlobals "min" = some none)
  (G6:PySem.W.nsIn K mainGlobals "range" = some none)
  (T5:PySem.W.nsIn K mainGlobals "reversed" = some none)
  (R8:PySem.W.nsIn K mainGlobals "sorted" = some none)
  (M6:PySem.W.nsIn K mainGlobals "tuple" = some none)
  {t_CORNERS:Tok} (J7:PySem.W.nsIn K mainGlobals "CORNERS" = some (some (.int 3 t_CORNERS)))
  : ∃a:Ad,Tx K mg a/\a.bD7=f21/\∀(s:Shared) (v:Value),BindsTo s a.aS7 ⟨[v],[]⟩ [("_law_script",v)]:=by
 have F0:=K7 (st:=P0) l0 c0 k0
 have F1:=K7 (st:=O1) l1 c1 k1
 have F2:=K7 (st:=Q7) l2 c2 k2
 have F3:=K7 (st:=Q5) l3 c3 k3
 have F4:=K7 (st:=V2) l4 c4 k4
 have F5:=K7 (st:=Q6) l5 c5 k5
 have F6:=K7 (st:=M2) l6 c6 k6
 have F7:=K7 (st:=O4) l7 c7 k7
 have F8:=K7 (st:=O2) l8 c8 k8
 have F9:=K7 (st:=O7) l9 c9 k9
 have F10:=K7 (st:=O3) l10 c10 k10
 have F11:=K7 (st:=N9) l11 c11 k11
 have F12:=K7 (st:=N0) l12 c12 k12
 have F13:=K7 (st:=O6) l13 c13 k13
 have F14:=K7 (st:=K8) l14 c14 k14
 have F15:=K7 (st:=J6) l15 c15 k15
 have F16:=K7 (st:=G1) l16 c16 k16
 have F17:=K7 (st:=E5) l17 c17 k17
 have F18:=K7 (st:=O5) l18 c18 k18
 have F19:=K7 (st:=O9) l19 c19 k19
 have F20:=K7 (st:=M9) l20 c20 k20
 have F21:=K7 (st:=aS5) l21 c21 k21
 refine⟨⟨f0,_,f1,_,f2,_,f3,_,f4,_,f5,_,f6,_,f7,_,f8,_,f9,_,f10,_,f11,_,f12,_,f13,_,f14,_,f15,_,f16,_,f17,_,f18,_,f19,_,f20,_,f21,_⟩,⟨F0,PySem.W.mg_of X G a0,F0.binds λ_ _ _ _ _ _ us hl=>match us,hl with | [_,_],_=>rfl,F1,PySem.W.mg_of X G a1,F1.binds λ_ _ _ _ _ _ us hl=>match us,hl with | [_,_,_,_],_=>rfl,F2,PySem.W.mg_of X G a2,F2.binds λ_ _ _ _ _ _ us hl=>match us,hl with | [_,_,_,_],_=>rfl,F3,PySem.W.mg_of X G a3,F3.binds λ_ _ _ _ _ _ us hl=>match us,hl with | [_,_,_],_=>rfl,F4,PySem.W.mg_of X G a4,F4.binds λ_ _ _ _ _ _ us hl=>match us,hl with | [_,_],_=>rfl,F5,PySem.W.mg_of X G a5,F5.binds λ_ _ _ _ _ _ us hl=>match us,hl with | [_],_=>rfl,F6,PySem.W.mg_of X G a6,F6.binds λ_ _ _ _ _ _ us hl=>match us,hl with | [_,_],_=>rfl,F7,PySem.W.mg_of X G a7,F7.binds λ_ _ _ _ _ _ us hl=>match us,hl with | [_,_],_=>rfl,F8,PySem.W.mg_of X G a8,F8.binds λ_ _ _ _ _ _ us hl=>match us,hl with | [_,_],_=>rfl,F9,PySem.W.mg_of X G a9,F9.binds λ_ _ _ _ _ _ us hl=>match us,hl with | [_,_],_=>rfl,F10,PySem.W.mg_of X G a10,F10.binds λ_ _ _ _ _ _ us hl=>match us,hl with | [_],_=>rfl,F11,PySem.W.mg_of X G a11,F11.binds λ_ _ _ _ _ _ us hl=>match us,hl with | [_,_,_],_=>rfl,F12,PySem.W.mg_of X G a12,F12.binds λ_ _ _ _ _ _ us hl=>match us,hl with | [_],_=>rfl,F13,PySem.W.mg_of X G a13,F13.binds λ_ _ _ _ _ _ us hl=>match us,hl with | [_],_=>rfl,F14,PySem.W.mg_of X G a14,F14.binds λ_ _ _ _ _ _ us hl=>match us,hl with | [_,_,_],_=>rfl,F15,PySem.W.mg_of X G a15,F15.binds λ_ _ _ _ _ _ us hl=>match us,hl with | [_,_,_],_=>rfl,F16,PySem.W.mg_of X G a16,F16.binds λ_ _ _ _ _ _ us hl=>match us,hl with | [_,_,_],_=>rfl,F17,PySem.W.mg_of X G a17,F17.binds λ_ _ _ _ _ _ us hl=>match us,hl with | [_,_],_=>rfl,F18,PySem.W.mg_of X G a18,F18.binds λ_ _ _ _ _ _ us hl=>match us,hl with | [_,_],_=>rfl,F19,PySem.W.mg_of X G a19,F19.binds λ_ _ _ _ _ _ us hl=>match us,hl with | [_],_=>rfl,F20,PySem.W.mg_of X G a20,F20.binds λ_ _ _ _ _ _ us hl=>match us,hl with | [_,_],_=>rfl,F21,PySem.W.mg_of X G a21,F21.binds λ_ _ _ _ _ _ us hl=>match us,hl with | [_],_=>rfl,PySem.W.mg_none_of X G bD2,PySem.W.mg_none_of X G aN2,PySem.W.mg_none_of X G T9,PySem.W.mg_none_of X G aZ6,PySem.W.mg_none_of X G L5,PySem.W.mg_none_of X G P1,PySem.W.mg_none_of X G q9,PySem.W.mg_none_of X G bB7,PySem.W.mg_none_of X G G6,PySem.W.mg_none_of X G T5,PySem.W.mg_none_of X G R8,PySem.W.mg_none_of X G M6,⟨t_CORNERS,PySem.W.mg_of X G J7⟩⟩,rfl,λs v=>.of_eq rfl⟩
theorem sc__law_grown:D7 ["_law_first", "_law_second", "_law_outs", "_law_ins", "_law_path", "_law_heap", "_law_i", "_law_ahead", "_law_k", "_law_place", "_law_turns", "_law_v", "_law_came", "_law_row"] ["_law_first", "_law_second"] (A9 O7):=⟨rfl,rfl,rfl,by decide +kernel,rfl,by decide +kernel,by decide +kernel⟩
def rh (m:Nat)(F G:Nat->Nat)(o i:OT)(p h:List Nat)(x6 x7 x8 x9:Sl):List Sl:=
 [.val (lI (fl F m)),.val (lI (fl G m)),.tr o,.tr i,.own (nI p.reverse),.own (nI h.reverse),x6,x7,x8,x9,.no,.no,.no,.no]
theorem W6 {m:Nat}{F G:Nat->Nat}{o i:OT}{p h:List Nat}{x6 x7 x8 x9:Sl}(h6:x6.nb=true)(h7:x7.nb=true)(h8:x8.nb=true)(h9:x9.nb=true):S7 (rh m F G o i p h x6 x7 x8 x9)=true:=by
 unfold rh;simp only[Z9,h6,h7,h8,h9,Bool.true_and];rfl
def rh2 (m:Nat)(F G:Nat->Nat)(o i:PyData)(p h:List PyData)(x6 x7 x8 x9 x10 x11 x12 x13:Sl):List Sl:=
 [.val (lI (fl F m)),.val (lI (fl G m)),.val o,.val i,.own p,.own h,x6,x7,x8,x9,x10,x11,x12,x13]
theorem bE3 {m:Nat}{F G:Nat->Nat}{o i:PyData}{p h:List PyData}{x6 x7 x8 x9 x10 x11 x12 x13:Sl}(h6:x6.nb=true)(h7:x7.nb=true)(h8:x8.nb=true)(h9:x9.nb=true)(h10:x10.nb=true)(h11:x11.nb=true)(h12:x12.nb=true)(h13:x13.nb=true):S7 (rh2 m F G o i p h x6 x7 x8 x9 x10 x11 x12 x13)=true:=by
 unfold rh2;simp only[Z9,h6,h7,h8,h9,h10,h11,h12,h13,Bool.true_and];rfl
def bU8 (ds:List PyData)(d:PyData):Prop:=∃F G m,TT.Rws F G m/\m<=1000/\ds=[lI (fl F m),lI (fl G m)] /\
 d=.tuple [.list ((List.range (m+3)).map λv=>lN ((TT.gst F G m).row v)),.list ((List.range m).map λv=>lN [(TT.gst F G m).o0 (v+3),(TT.gst F G m).o1 (v+3),(TT.gst F G m).o2 (v+3)])]
section
variable {P:Program}{w:World}{K:PySem.W.Frag}{mg:Str->Option Value}{base:Heap}{a:Ad}
theorem bZ2 (T:Tx K mg a):G3 P w K mg base CX0 1 a.d6 a.g9 ["_law_first", "_law_second"] (spV K bU8):=by
 refine T.aC4.ok sc__law_grown (X3 λds d ⟨_,_,_,_,_,e,_⟩=>by rw[e];rfl) (λcdv A outer s H vs Q E hr h=>?_)
 obtain ⟨ds,S,d,hS,r,⟨F,G,m,R,hm,rfl,rfl⟩,k⟩:=h;refine⟨_,(A5 (B6 (i:=2) sc__law_grown.nd rfl (Or.inl rfl) (C6 A3))
   (A5 (B6 (i:=3) sc__law_grown.nd rfl (Or.inl rfl) (C6 (A0 (G0 (A0 (C6 A3) (A0 (C6 A3) (A0 (C6 A3) A3)))) (A0 (G0 (A0 (C6 A3) (A0 (C6 A3) (A0 (C6 A3) A3)))) (A0 (G0 (A0 (C6 A3) (A0 (C6 A3) (A0 (C6 A3) A3)))) A3)))))
   (A5 (B6 (i:=4) sc__law_grown.nd rfl (Or.inl rfl) (C6 (A0 A4 A3)))
   (A5 (B6 (i:=5) sc__law_grown.nd rfl (Or.inl rfl) (C6 (A0 A4 A3)))
   (A5 (L7 PassesOwn.never rfl (G4 rfl T.G6 (A0 (C3 L4 (by rfl) T.P1 PySem.boot_len (A0 (pv 0) A3)) A3)) (B4 (i:=6) sc__law_grown.nd rfl (Or.inl rfl)) (A5 (B6 (i:=7) sc__law_grown.nd rfl (Or.inl rfl) (C6 (A0 A4 (A0 A4 A3))))
   (A5 (R7 (C1 aG6 (pv 6) A4 (E2 _)) (A8 (B6 (i:=7) sc__law_grown.nd rfl (Or.inl rfl) (C6 (A0 (B7 C2 (pv 0) (B2 U3 (pv 6) A4) (λ_ _=>rfl)) (A0 (B7 C2 (pv 1) (B2 U3 (pv 6) A4) (λ_ _=>rfl)) A3))))) K4)
   (A5 (L7 PassesOwn.never rfl (G4 rfl T.G6 (A0 (B2 U3 (B7 C2 (pv 0) (pv 6) (λ_ _=>rfl)) (B7 C2 (pv 7) A4 (λ_ _=>rfl))) A3)) (B4 (i:=8) sc__law_grown.nd rfl (Or.inl rfl)) (A8 (H9 (N4 Ab1 PySem.F.slot_list_append PySem.F.type_list_append D8 (pv 5) (A0 (aU6 Ab1 PySem.F.slot_list_pop PySem.F.type_list_pop aX0 (pv 4)) A3)))))
   (A5 (H9 (N4 Ab1 PySem.F.slot_list_append PySem.F.type_list_append D8 (pv 3) (A0 (G0 (A0 (C6 A3) (A0 (C6 A3) (A0 (C6 A3) A3)))) A3)))
   (A5 (L7 PassesOwn.never rfl (G4 rfl T.G6 (A0 (B2 U3 (B7 C2 (pv 1) (pv 6) (λ_ _=>rfl)) (B7 C2 (pv 7) A4 (λ_ _=>rfl))) A3)) (B4 (i:=8) sc__law_grown.nd rfl (Or.inl rfl)) (A5 (B6 (i:=9) sc__law_grown.nd rfl (Or.inl rfl) (aU6 Ab1 PySem.F.slot_list_pop PySem.F.type_list_pop aX0 (pv 5)))
   (A5 (aB0 (B2 D1 A4 (pv 6)) (bF9 (B7 C2 (pv 2) (B2 U3 (pv 9) A4) (λ_ _=>rfl)) A4 aL9))
   (A8 (H9 (N4 Ab1 PySem.F.slot_list_append PySem.F.type_list_append D8 (B7 C2 (B7 C2 (pv 3) (B2 D1 A4 (pv 6)) (λ_ _=>rfl)) A4 (λ_ _=>rfl)) (A0 (pv 9) A3)))))))
   (A5 (H9 (N4 Ab1 PySem.F.slot_list_append PySem.F.type_list_append D8 (pv 2) (A0 (C6 (A0 (B7 C2 (pv 4) (aL1 aA5 A4) (λ_ _=>rfl)) (A0 (B7 C2 (pv 5) (aL1 aA5 A4) (λ_ _=>rfl)) (A0 A4 A3)))) A3)))
   (A5 (H9 (N4 Ab1 PySem.F.slot_list_append PySem.F.type_list_append D8 (B7 C2 (B7 C2 (pv 3) (B7 C2 (pv 4) (aL1 aA5 A4) (λ_ _=>rfl)) (λ_ _=>rfl)) A4 (λ_ _=>rfl)) (A0 (B2 D1 A4 (pv 6)) A3)))
   (A5 (H9 (N4 Ab1 PySem.F.slot_list_append PySem.F.type_list_append D8 (B7 C2 (B7 C2 (pv 3) (B7 C2 (pv 5) (aL1 aA5 A4) (λ_ _=>rfl)) (λ_ _=>rfl)) A4 (λ_ _=>rfl)) (A0 (B2 D1 A4 (pv 6)) A3)))
   (A8 (H9 (N4 Ab1 PySem.F.slot_list_append PySem.F.type_list_append D8 (pv 4) (A0 (B2 D1 A4 (pv 6)) A3)))))))))))))
   (A5 (aM2 PassesOwn.never (C1 aG6 (C3 L4 (by rfl) T.P1 PySem.boot_len (A0 (pv 4) A3)) A4 (E2 _)) (A8 (H9 (N4 Ab1 PySem.F.slot_list_append PySem.F.type_list_append D8 (pv 5) (A0 (aU6 Ab1 PySem.F.slot_list_pop PySem.F.type_list_pop aX0 (pv 4)) A3)))))
   (A5 (aM2 PassesOwn.never (C1 aG6 (C3 L4 (by rfl) T.P1 PySem.boot_len (A0 (pv 5) A3)) A4 (E2 _)) (A8 (H9 (N4 Ab1 PySem.F.slot_list_append PySem.F.type_list_append D8 (B7 C2 (B7 C2 (pv 3) A4 (λ_ _=>rfl)) A4 (λ_ _=>rfl)) (A0 (aU6 Ab1 PySem.F.slot_list_pop PySem.F.type_list_pop aX0 (pv 5)) A3)))))
   (A5 (B6 (i:=10) sc__law_grown.nd rfl (Or.inl rfl) (C6 (A0 (B2 (M7 K) (B2 (M7 K) (C6 (A0 A4 A3)) (B7 C2 (B7 C2 (pv 3) A4 (λ_ _=>rfl)) A4 (λ_ _=>rfl))) (C6 (A0 A4 A3))) A3)))
   (A5 (H9 (N4 Ab1 PySem.F.slot_list_append PySem.F.type_list_append D8 (pv 10) (A0 (B2 (M7 K) (B2 (M7 K) (C6 (A0 A4 A3)) (aN6 K rfl (by rfl) T.q9 (by rfl) T.T5 (B7 C2 (B7 C2 (pv 3) A4 (λ_ _=>rfl)) A4 (λ_ _=>rfl)))) (C6 (A0 A4 A3))) A3)))
   (A5 (H9 (N4 Ab1 PySem.F.slot_list_append PySem.F.type_list_append D8 (pv 10) (A0 (B2 (M7 K) (B2 (M7 K) (C6 (A0 A4 A3)) (B7 C2 (B7 C2 (pv 3) A4 (λ_ _=>rfl)) A4 (λ_ _=>rfl))) (C6 (A0 A4 A3))) A3)))
   (A5 (L7 PassesOwn.never rfl (G4 rfl T.G6 (A0 (C3 L4 (by rfl) T.P1 PySem.boot_len (A0 (pv 2) A3)) A3)) (B4 (i:=11) sc__law_grown.nd rfl (Or.inl rfl)) (A5 (B6 (i:=12) sc__law_grown.nd rfl (Or.inl rfl) (B7 C2 (pv 3) (B2 D1 A4 (pv 11)) (λ_ _=>rfl)))
   (A5 (B6 (i:=13) sc__law_grown.nd rfl (Or.inl rfl) (B2 (M7 K) (B2 (M7 K) (B2 (M7 K) (C6 (A0 (B7 C2 (B7 C2 (pv 2) (pv 11) (λ_ _=>rfl)) A4 (λ_ _=>rfl)) A3)) (B7 C2 (pv 12) A4 (λ_ _=>rfl))) (C6 (A0 (B7 C2 (B7 C2 (pv 2) (pv 11) (λ_ _=>rfl)) A4 (λ_ _=>rfl)) A3))) (B7 C2 (pv 12) A4 (λ_ _=>rfl))))
   (A8 (H9 (N4 Ab1 PySem.F.slot_list_append PySem.F.type_list_append D8 (pv 10) (A0 (B2 (M7 K) (B2 (M7 K) (pv 13) (C6 (A0 (B7 C2 (B7 C2 (pv 2) (pv 11) (λ_ _=>rfl)) A4 (λ_ _=>rfl)) A3))) (aN6 K rfl (by rfl) T.q9 (by rfl) T.T5 (B7 C2 (pv 12) A4 (λ_ _=>rfl)))) A3)))))))
   (A8 (C9 (G0 (A0 (pv 10) (A0 (pv 2) A3)))))))))))))))),M1 hS r ?_ k⟩
 refine B1 (bX9 (M8 J0) ?_);refine B1 (bX9 (M8 (E9 (aI2 (E9 (M8 J0) (E9 (M8 J0) (E9 (M8 J0) J0)))) (E9 (aI2 (E9 (M8 J0) (E9 (M8 J0) (E9 (M8 J0) J0)))) (E9 (aI2 (E9 (M8 J0) (E9 (M8 J0) (E9 (M8 J0) J0)))) J0)))) ?_);refine B1 (K2 (J4 (A1 A6 A7)) ?_);refine B1 (K2 (J4 (A1 A6 A7)) ?_);show W K _ (rh m F G (M3 0 (TT.gst F G 0).o0 (TT.gst F G 0).o1 (TT.gst F G 0).o2) (E6 (0+3) (TT.gst F G 0).i0 (TT.gst F G 0).i1 (TT.gst F G 0).i2) (TT.gst F G 0).path (TT.gst F G 0).heap .no .no .no .no) _;have lenF:((fl F m).map PyData.int).length=m:=by simp[fl]
 refine B1 (P4 (P7 (A1 (S8 (A1 (A2 rfl) A7)) A7) ?_ ?_) (λi ρ=>∃x6 x7 x8 x9,(x6.nb=true/\x7.nb=true/\x8.nb=true/\x9.nb=true) /\
  ρ=rh m F G (M3 i (TT.gst F G i).o0 (TT.gst F G i).o1 (TT.gst F G i).o2) (E6 (i+3) (TT.gst F G i).i0 (TT.gst F G i).i1 (TT.gst F G i).i2) (TT.gst F G i).path (TT.gst F G i).heap x6 x7 x8 x9) ⟨_,_,_,_,⟨rfl,rfl,rfl,rfl⟩,rfl⟩ ?_ ?_)
 ·rw[lenF];omega
 ·rw[lenF];omega
 ·rintro i d _ hd ⟨x6,x7,x8,x9,⟨b6,b7,b8,b9⟩,rfl⟩;obtain ⟨rfl,hi⟩:=Q1 hd;have hi:i<m:=by
   have:=hi
   simp[fl]at this
   omega
  obtain ⟨sk,sa,sb,spl,shl,slo,spx,shy,se0,se1⟩:=TT.aV4 R hi;have hst:TT.gst F G (i+1)=(TT.gst F G i).step (F i-TT.pv F i) (G i-TT.pv G i):=rfl;have f1:=R.f1 i hi;have g1:=R.g1 i hi;have hFi:=R.f2 i hi;have hGi:=R.g2 i hi;generalize hs:TT.gst F G i=s at sk sa sb spl shl slo spx shy se0 se1 hst ⊢;refine⟨_,B9,?_⟩;refine B1 (K2 (J4 (A1 A6 (A1 A6 A7))) ?_ (show 7<14 by decide))
  refine B1 (cF8 (rh m F G (M3 i s.o0 s.o1 s.o2) (E6 (i+3) s.i0 s.i1 s.i2) s.path s.heap (.val (.int (i:Int))) (.own [.int (TT.pv F i:Nat),.int (TT.pv G i:Nat)]) x8 x9) (C7 (aB4 (A2 rfl) A6))
   (λh=>(K2 (ds:=[.int (F (i-1):Nat),.int (G (i-1):Nat)]) (J4 (A1 (G5 (A2 rfl) (K5 (A2 rfl) A6) rfl ?_) (A1 (G5 (A2 rfl) (K5 (A2 rfl) A6) rfl ?_) A7))) ?_ (show 7<14 by decide))) (λh=>N1 ?_) ?_)
  ·have h:(i:Int)>0:=of_decide_eq_true h
   have e:(i:Int)-1=((i-1:Nat):Int):=by omega
   rw[e];exact bJ8 (by omega)
  ·have h:(i:Int)>0:=of_decide_eq_true h
   have e:(i:Int)-1=((i-1:Nat):Int):=by omega
   rw[e];exact bJ8 (by omega)
  ·have h:(i:Int)>0:=of_decide_eq_true h
   obtain ⟨j,rfl⟩:∃j,i=j+1:=⟨i-1,by omega⟩
   rfl
  ·have h:¬(i:Int)>0:=of_decide_eq_false h
   have:i=0:=by omega
   subst this;rfl
  generalize hA:F i-TT.pv F i=na at sa sb shl slo spx shy hst;generalize hB:G i-TT.pv G i=nb at sb slo shy hst;refine B1 (P4 (P7 (A1 (K5 (G5 (A2 rfl) (A2 rfl) rfl (bJ8 hi)) (G5 (G9 rfl) A6 rfl rfl)) A7) ?_ ?_) (λj ρ=>∃x8,x8.nb=true /\
   ρ=rh m F G (M3 i s.o0 s.o1 s.o2) (E6 (i+3) s.i0 s.i1 s.i2) (s.path.drop j) (s.h1 j) (.val (.int (i:Int))) (.own [.int (TT.pv F i:Nat),.int (TT.pv G i:Nat)]) x8 x9) ⟨x8,b8,rfl⟩ ?_ ?_)
  ·omega
  ·omega
  ·rintro j d _ hd ⟨y8,c8,rfl⟩;obtain ⟨rfl,hj⟩:=Q1 hd;have hj:j<na:=by omega
   refine⟨_,B9,?_⟩;obtain ⟨x,hx⟩:∃x,s.path[j]? = some x:=⟨_,Aa2 (by omega)⟩
   have e1:s.path.drop j=x::s.path.drop (j+1):=by
    obtain ⟨h1,h2⟩:=Ab0.mp hx;rw[<- h2];exact List.drop_eq_getElem_cons h1
   have e2:s.h1 (j+1)=x::s.h1 j:=by
    unfold TT.S.h1;obtain ⟨h1,h2⟩:=Ab0.mp hx;rw[List.take_succ_eq_append_getElem h1,h2];simp
   show W K _ (rh m F G (M3 i s.o0 s.o1 s.o2) (E6 (i+3) s.i0 s.i1 s.i2) (s.path.drop j) (s.h1 j) (.val (.int (i:Int))) (.own [.int (TT.pv F i:Nat),.int (TT.pv G i:Nat)]) (.val (.int (j:Int))) x9) _
   refine aF0 (ds:=nI (s.h1 j).reverse) (bE6 (d:=.int (x:Int)) (ds:=nI (s.path.drop (j+1)).reverse) ?_ (W6 rfl rfl rfl b9)) rfl rfl ?_ ⟨.val (.int (j:Int)),rfl,?_⟩ ?_
   ·show some (Sl.own (nI (s.path.drop j).reverse))=_
    rw[e1];simp[nI]
   ·rw[D3,Ae1];unfold TT.S.h1 at shl ⊢;unfold PySem.sizeLine;simp only[Ab7,Ae1,Ad1]at shl ⊢;omega
   ·rw[e2];unfold rh
    simp[nI]
   ·exact W6 (p:=s.path.drop (j+1)) (h:=s.h1 j) rfl rfl rfl b9
  rintro _ ⟨y8,c8,rfl⟩;rw[O0];have ea:((F i:Int)-(TT.pv F i:Int)).toNat=na:=by omega
  rw[ea];refine B1 (Y9 (u0:=E6 (i+3) s.i0 s.i1 s.i2) aA6 rfl rfl (aI2 (E9 (M8 J0) (E9 (M8 J0) (E9 (M8 J0) J0)))) ?_ ?_ (W6 rfl rfl c8 b9))
  ·rw[Aa3,List.length_range];unfold PySem.sizeLine;omega
  have ei:(E6 (i+3) s.i0 s.i1 s.i2).put [] (.lst (((List.range (i+3)).map λq=>OT.tup [oN (s.i0 q),oN (s.i1 q),oN (s.i2 q)])++[.tup [.lst [],.lst [],.lst []]]))=E6 (i+4) s.i0 s.i1 (TT.put s.i2 (i+3) []):=by
   rw[OT.put_nil,cA0]
   congr 1
   ·funext q;by_cases e:q=i+3
    ·rw[e,TT.B3,se0]
    ·rw[TT.B5 e]
   ·funext q;by_cases e:q=i+3
    ·rw[e,TT.B3,se1]
    ·rw[TT.B5 e]
  show W K _ ((rh m F G (M3 i s.o0 s.o1 s.o2) (E6 (i+3) s.i0 s.i1 s.i2) (s.path.drop na) (s.h1 na) (.val (.int (i:Int))) (.own [.int (TT.pv F i:Nat),.int (TT.pv G i:Nat)]) y8 x9).set 3 (.tr ((E6 (i+3) s.i0 s.i1 s.i2).put [] (.lst (((List.range (i+3)).map λq=>OT.tup [oN (s.i0 q),oN (s.i1 q),oN (s.i2 q)])++[.tup [.lst [],.lst [],.lst []]]))))) _
  rw[ei];show W K _ (rh m F G (M3 i s.o0 s.o1 s.o2) (E6 (i+4) s.i0 s.i1 (TT.put s.i2 (i+3) [])) (s.path.drop na) (s.h1 na) (.val (.int (i:Int))) (.own [.int (TT.pv F i:Nat),.int (TT.pv G i:Nat)]) y8 x9) _;generalize hh:s.h1 na=h at sb shl slo shy ⊢;refine B1 (P4 (P7 (A1 (K5 (G5 (A2 rfl) (A2 rfl) rfl (bJ8 hi)) (G5 (G9 rfl) A6 rfl rfl)) A7) ?_ ?_) (λj ρ=>∃x8 x9,x8.nb=true/\x9.nb=true /\
   ρ=rh m F G (M3 i s.o0 s.o1 (λq=>if q∈h.take j then i+3 else s.o2 q)) (E6 (i+4) s.i0 s.i1 (TT.put s.i2 (i+3) (h.take j))) (s.path.drop na) (h.drop j) (.val (.int (i:Int))) (.own [.int (TT.pv F i:Nat),.int (TT.pv G i:Nat)]) x8 x9) ⟨y8,x9,c8,b9,by simp⟩ ?_ ?_)
  ·omega
  ·omega
  ·rintro j d _ hd ⟨z8,z9,c8,c9,rfl⟩;obtain ⟨rfl,hj⟩:=Q1 hd;have hj:j<nb:=by omega
   refine⟨_,B9,?_⟩;obtain ⟨x,hx⟩:∃x,h[j]? = some x:=⟨_,Aa2 (by omega)⟩
   obtain ⟨hx1,hx2⟩:=Ab0.mp hx;have e1:h.drop j=x::h.drop (j+1):=by rw[<- hx2];exact List.drop_eq_getElem_cons hx1
   have e2:h.take (j+1)=h.take j++[x]:=by rw[<- hx2];exact List.take_succ_eq_append_getElem hx1
   obtain ⟨x3,xi⟩:=slo x (by
    refine List.mem_of_getElem? (i:=j) ?_;rw[List.getElem?_take,if_pos hj];exact hx)
   refine B1 (cU6 (ds:=nI (h.drop (j+1)).reverse) (d:=.int (x:Int)) ?_ ?_ (W6 (x8:=.val (.int (j:Int))) rfl rfl rfl c9))
   ·show some (Sl.own (nI (h.drop j).reverse))=_
    rw[e1];simp[nI]
   have e3:(3:Int)+(i:Int)=((i+3:Nat):Int):=by omega
   have hx3:x-3+3=x:=by omega
   show W K _ (rh m F G (M3 i s.o0 s.o1 (λq=>if q∈h.take j then i+3 else s.o2 q)) (E6 (i+4) s.i0 s.i1 (TT.put s.i2 (i+3) (h.take j))) (s.path.drop na) (h.drop (j+1)) (.val (.int (i:Int))) (.own [.int (TT.pv F i:Nat),.int (TT.pv G i:Nat)]) (.val (.int (j:Int))) (.val (.int (x:Int)))) _
   have eo:(M3 i s.o0 s.o1 (λq=>if q∈h.take j then i+3 else s.o2 q)).put [x-3] (oN [s.o0 (x-3+3),s.o1 (x-3+3),i+3])=M3 i s.o0 s.o1 (λq=>if q∈h.take (j+1) then i+3 else s.o2 q):=by
    rw[cD2 (by omega)]
    congr 1
    funext q
    rw[hx3,e2];by_cases e:q=x
    ·rw[e,TT.B3];simp
    ·rw[TT.B5 e];simp[e]
   refine B1 (cJ5 (u0:=M3 i s.o0 s.o1 (λq=>if q∈h.take j then i+3 else s.o2 q)) (us:=[.leaf (.int (s.o0 (x-3+3):Nat)),.leaf (.int (s.o1 (x-3+3):Nat)),.leaf (.int ((if x-3+3∈h.take j then i+3 else s.o2 (x-3+3):Nat):Int))]) (π:=[]++[x-3]) 2 (K5 A6 (A2 rfl)) (aC7 (x-3) aA6 (K5 (A2 rfl) A6) (by omega) (λu _=>⟨u,rfl⟩)) A6 rfl (by decide:2<3) rfl (cO0 (by omega)) ?_ (W6 rfl rfl rfl rfl))
   show W K _ ((rh m F G (M3 i s.o0 s.o1 (λq=>if q∈h.take j then i+3 else s.o2 q)) (E6 (i+4) s.i0 s.i1 (TT.put s.i2 (i+3) (h.take j))) (s.path.drop na) (h.drop (j+1)) (.val (.int (i:Int))) (.own [.int (TT.pv F i:Nat),.int (TT.pv G i:Nat)]) (.val (.int (j:Int))) (.val (.int (x:Int)))).set 2
    (.tr ((M3 i s.o0 s.o1 (λq=>if q∈h.take j then i+3 else s.o2 q)).put [x-3] (.lst [.leaf (.int (s.o0 (x-3+3):Nat)),.leaf (.int (s.o1 (x-3+3):Nat)),.leaf (.int (3+(i:Int)))])))) _
   rw[e3];show W K _ ((rh m F G (M3 i s.o0 s.o1 (λq=>if q∈h.take j then i+3 else s.o2 q)) (E6 (i+4) s.i0 s.i1 (TT.put s.i2 (i+3) (h.take j))) (s.path.drop na) (h.drop (j+1)) (.val (.int (i:Int))) (.own [.int (TT.pv F i:Nat),.int (TT.pv G i:Nat)]) (.val (.int (j:Int))) (.val (.int (x:Int)))).set 2
    (.tr ((M3 i s.o0 s.o1 (λq=>if q∈h.take j then i+3 else s.o2 q)).put [x-3] (oN [s.o0 (x-3+3),s.o1 (x-3+3),i+3])))) _
   rw[eo];show W K _ (rh m F G (M3 i s.o0 s.o1 (λq=>if q∈h.take (j+1) then i+3 else s.o2 q)) (E6 (i+4) s.i0 s.i1 (TT.put s.i2 (i+3) (h.take j))) (s.path.drop na) (h.drop (j+1)) (.val (.int (i:Int))) (.own [.int (TT.pv F i:Nat),.int (TT.pv G i:Nat)]) (.val (.int (j:Int))) (.val (.int (x:Int)))) _
   refine Y9 (u0:=E6 (i+4) s.i0 s.i1 (TT.put s.i2 (i+3) (h.take j))) (π:=[]++[i+3]++[2]) (aC7 2 (aC7 (i+3) aA6 (K5 A6 (A2 rfl)) (by omega) (λu _=>⟨u,rfl⟩)) A6 rfl (λu0 h=>by cases h;exact⟨_,aA9 (by omega)⟩)) rfl (bK7 (by omega)) (aS4 (A2 rfl)) ?_ ?_ (W6 rfl rfl rfl rfl)
   ·rw[Aa3,TT.B3,Ad1];unfold PySem.sizeLine;omega
   refine⟨.val (.int (j:Int)),.val (.int (x:Int)),rfl,rfl,?_⟩;rw[aZ7 (by omega),bJ9,TT.B3,<- e2]
   rfl
  rintro _ ⟨z8,z9,c8,c9,rfl⟩;rw[O0];have eb:((G i:Int)-(TT.pv G i:Int)).toNat=nb:=by omega
  rw[eb];obtain ⟨x,r1,ex,xlt,xlen⟩:=spx;obtain ⟨y,r2,ey,ylt,ylen⟩:=shy;have e3:(3:Int)+(i:Int)=((i+3:Nat):Int):=by omega
  have hpl:atI (nI (s.path.drop na).reverse) (-1)=some (.int (x:Int)):=by rw[ex,List.reverse_cons,y2];exact aI4
  have hhl:atI (nI (h.drop nb).reverse) (-1)=some (.int (y:Int)):=by rw[ey,List.reverse_cons,y2];exact aI4
  refine B1 (Y9 (u0:=M3 i s.o0 s.o1 (λq=>if q∈h.take nb then i+3 else s.o2 q)) aA6 rfl rfl (M8 (E9 (aS4 (LV.E.imm (d:=.int (x:Int)) (G5 (G9 rfl) (aK9 A6) rfl hpl))) (E9 (aS4 (LV.E.imm (d:=.int (y:Int)) (G5 (G9 rfl) (aK9 A6) rfl hhl))) (E9 (aS4 A6) J0)))) ?_ ?_ (W6 rfl rfl c8 c9))
  ·rw[Aa3,List.length_range];unfold PySem.sizeLine;omega
  have eo:(M3 i s.o0 s.o1 (λq=>if q∈h.take nb then i+3 else s.o2 q)).put [] (.lst (((List.range i).map λj=>oN [s.o0 (j+3),s.o1 (j+3),(λq=>if q∈h.take nb then i+3 else s.o2 q) (j+3)])++[.lst [.leaf (.int (x:Int)),.leaf (.int (y:Int)),.leaf (.int ((2:Nat):Int))]]))=M3 (i+1) (TT.put s.o0 (i+3) x) (TT.put s.o1 (i+3) y) (TT.put (λq=>if q∈h.take nb then i+3 else s.o2 q) (i+3) 2):=by rw[OT.put_nil];exact cD9 (k:=i) (o0:=s.o0) (o1:=s.o1) (o2:=λq=>if q∈h.take nb then i+3 else s.o2 q) x y 2
  show W K _ ((rh m F G (M3 i s.o0 s.o1 (λq=>if q∈h.take nb then i+3 else s.o2 q)) (E6 (i+4) s.i0 s.i1 (TT.put s.i2 (i+3) (h.take nb))) (s.path.drop na) (h.drop nb) (.val (.int (i:Int))) (.own [.int (TT.pv F i:Nat),.int (TT.pv G i:Nat)]) z8 z9).set 2 (.tr ((M3 i s.o0 s.o1 (λq=>if q∈h.take nb then i+3 else s.o2 q)).put [] (.lst (((List.range i).map λj=>oN [s.o0 (j+3),s.o1 (j+3),(λq=>if q∈h.take nb then i+3 else s.o2 q) (j+3)])++[.lst [.leaf (.int (x:Int)),.leaf (.int (y:Int)),.leaf (.int ((2:Nat):Int))]]))))) _
  rw[eo];show W K _ (rh m F G (M3 (i+1) (TT.put s.o0 (i+3) x) (TT.put s.o1 (i+3) y) (TT.put (λq=>if q∈h.take nb then i+3 else s.o2 q) (i+3) 2)) (E6 (i+4) s.i0 s.i1 (TT.put s.i2 (i+3) (h.take nb))) (s.path.drop na) (h.drop nb) (.val (.int (i:Int))) (.own [.int (TT.pv F i:Nat),.int (TT.pv G i:Nat)]) z8 z9) _
  refine B1 (Y9 (u0:=E6 (i+4) s.i0 s.i1 (TT.put s.i2 (i+3) (h.take nb))) (π:=[]++[x]++[0]) (aC7 0 (aC7 x aA6 (G5 (G9 rfl) (aK9 A6) rfl hpl) rfl (λu _=>⟨u,rfl⟩)) A6 rfl (λu0 h=>by cases h;exact⟨_,aA9 (by omega)⟩)) rfl (cE0 (by omega)) (aS4 (K5 A6 (A2 rfl))) ?_ ?_ (W6 rfl rfl c8 c9))
  ·rw[Aa3];unfold PySem.sizeLine;omega
  have ej:=bU5 (n:=i+4) (q:=x) (i0:=s.i0) (i1:=s.i1) (i2:=TT.put s.i2 (i+3) (h.take nb)) (by omega) (i+3)
  rw[<- e3]at ej;show W K _ ((rh m F G (M3 (i+1) (TT.put s.o0 (i+3) x) (TT.put s.o1 (i+3) y) (TT.put (λq=>if q∈h.take nb then i+3 else s.o2 q) (i+3) 2)) (E6 (i+4) s.i0 s.i1 (TT.put s.i2 (i+3) (h.take nb))) (s.path.drop na) (h.drop nb) (.val (.int (i:Int))) (.own [.int (TT.pv F i:Nat),.int (TT.pv G i:Nat)]) z8 z9).set 3 (.tr ((E6 (i+4) s.i0 s.i1 (TT.put s.i2 (i+3) (h.take nb))).put ([]++[x]++[0]) (.lst (((s.i0 x).map λ(x:Nat)=>OT.leaf (.int (x:Int)))++[.leaf (.int (3+(i:Int)))]))))) _
  rw[ej];show W K _ (rh m F G (M3 (i+1) (TT.put s.o0 (i+3) x) (TT.put s.o1 (i+3) y) (TT.put (λq=>if q∈h.take nb then i+3 else s.o2 q) (i+3) 2)) (E6 (i+4) (TT.put s.i0 x (s.i0 x++[i+3])) s.i1 (TT.put s.i2 (i+3) (h.take nb))) (s.path.drop na) (h.drop nb) (.val (.int (i:Int))) (.own [.int (TT.pv F i:Nat),.int (TT.pv G i:Nat)]) z8 z9) _
  refine B1 (Y9 (u0:=E6 (i+4) (TT.put s.i0 x (s.i0 x++[i+3])) s.i1 (TT.put s.i2 (i+3) (h.take nb))) (π:=[]++[y]++[1]) (aC7 1 (aC7 y aA6 (G5 (G9 rfl) (aK9 A6) rfl hhl) rfl (λu _=>⟨u,rfl⟩)) A6 rfl (λu0 h=>by cases h;exact⟨_,aA9 (by omega)⟩)) rfl (cD7 (by omega)) (aS4 (K5 A6 (A2 rfl))) ?_ ?_ (W6 rfl rfl c8 c9))
  ·rw[Aa3];unfold PySem.sizeLine;omega
  have ek:=bR1 (n:=i+4) (q:=y) (i0:=TT.put s.i0 x (s.i0 x++[i+3])) (i1:=s.i1) (i2:=TT.put s.i2 (i+3) (h.take nb)) (by omega) (i+3)
  rw[<- e3]at ek;show W K _ ((rh m F G (M3 (i+1) (TT.put s.o0 (i+3) x) (TT.put s.o1 (i+3) y) (TT.put (λq=>if q∈h.take nb then i+3 else s.o2 q) (i+3) 2)) (E6 (i+4) (TT.put s.i0 x (s.i0 x++[i+3])) s.i1 (TT.put s.i2 (i+3) (h.take nb))) (s.path.drop na) (h.drop nb) (.val (.int (i:Int))) (.own [.int (TT.pv F i:Nat),.int (TT.pv G i:Nat)]) z8 z9).set 3 (.tr ((E6 (i+4) (TT.put s.i0 x (s.i0 x++[i+3])) s.i1 (TT.put s.i2 (i+3) (h.take nb))).put ([]++[y]++[1]) (.lst (((s.i1 y).map λ(x:Nat)=>OT.leaf (.int (x:Int)))++[.leaf (.int (3+(i:Int)))]))))) _
  rw[ek];show W K _ (rh m F G (M3 (i+1) (TT.put s.o0 (i+3) x) (TT.put s.o1 (i+3) y) (TT.put (λq=>if q∈h.take nb then i+3 else s.o2 q) (i+3) 2)) (E6 (i+4) (TT.put s.i0 x (s.i0 x++[i+3])) (TT.put s.i1 y (s.i1 y++[i+3])) (TT.put s.i2 (i+3) (h.take nb))) (s.path.drop na) (h.drop nb) (.val (.int (i:Int))) (.own [.int (TT.pv F i:Nat),.int (TT.pv G i:Nat)]) z8 z9) _
  refine R5 (ds:=nI (s.path.drop na).reverse) rfl (K5 A6 (A2 rfl)) ?_ ⟨.val (.int (i:Int)),.own [.int (TT.pv F i:Nat),.int (TT.pv G i:Nat)],z8,z9,⟨rfl,rfl,c8,c9⟩,?_⟩ (W6 rfl rfl c8 c9)
  ·rw[D3,Ae1,List.length_drop];unfold PySem.sizeLine;omega
  rw[hst];simp only[TT.S.step,sk,hh,ex,ey,List.headD_cons];rw[e3];unfold rh
  simp[nI]
  rfl
 ·rintro _ ⟨x6,x7,x8,x9,⟨b6,b7,b8,b9⟩,rfl⟩;have em:(T3 0 (((fl F m).map PyData.int).length:Int).toNat).length=m:=by rw[O0,lenF];omega
  rw[em];have GI:=TT.O8 R m (Aa7 _);have Lm:=TT.aI3 GI.inv;have I2:=TT.bW5 R m (Aa7 _);have pl:=GI.p;have hl:=GI.h;have gk:=GI.k;have gle:=GI.le;have gle2:=GI.le2;obtain ⟨p,hp⟩:=GI.inv.pe;obtain ⟨h,hh⟩:=GI.inv.he;have R2:=cA8 hp hh;have R0:=TT.aB6 (s:=TT.gst F G m);have R1:=TT.aL2 (s:=TT.gst F G m);have RI:∀q,3<=q->q<m+3->(TT.gst F G m).row q=_:=λq h1 h2=>TT.N6 h1 (by rw[gk];exact h2)
  generalize hs:TT.gst F G m=s at Lm I2 pl hl gk hp hh R2 R0 R1 RI k ⊢;rw[gk]at Lm;refine B1 (aV6 (λk ρ=>∃j,j+k+1=s.path.length/\ρ=rh m F G (M3 m s.o0 s.o1 s.o2) (E6 (m+3) s.i0 s.i1 s.i2) (s.path.drop j) (s.h1 j) x6 x7 x8 x9) ⟨s.path.length-1,0,by rw[hp];simp,rfl⟩ ?_)
  rintro k0 _ ⟨j,hj,rfl⟩;refine⟨_,C7 (aB4 (S8 (A1 (G9 rfl) A7)) A6),?_⟩;have el:(nI (s.path.drop j).reverse).length=k0+1:=by rw[D3,Ae1,List.length_drop];omega
  rw[el];by_cases hk:k0=0
  ·subst hk;rw[if_neg (by simp)]
   have ej:s.path.drop j=[0]:=by
    rw[hp,Ab7]at hj;rw[hp,List.drop_append,List.drop_of_length_le (by simp at hj;omega)]
    have:j-p.length=0:=by simp at hj;omega
    rw[this];rfl
   have eh:s.h1 j=(p.reverse++h)++[1]:=by
    unfold TT.S.h1;rw[hp,Ab7]at hj;rw[hp,hh,List.take_append_of_le_length (by simp at hj;omega),List.take_of_length_le (by simp at hj;omega)]
    simp
   rw[ej,eh];generalize hq:p.reverse++h=q at R2;have ql:q.length<=3000:=by
    have:=Lm 2
    rw[R2]at this;simp at this;omega
   have ei:s.i2=TT.put s.i2 2 (q.take 0):=by
    funext z;by_cases e:z=2
    ·rw[e,TT.B3,I2];rfl
    ·rw[TT.B5 e]
   rw[ei];refine B1 (aV6 (λk ρ=>∃j,j+k=q.length/\ρ=rh m F G (M3 m s.o0 s.o1 s.o2) (E6 (m+3) s.i0 s.i1 (TT.put s.i2 2 (q.take j))) [0] ((q++[1]).drop j) x6 x7 x8 x9) ⟨q.length,0,by omega,rfl⟩ ?_)
   rintro k1 _ ⟨j1,hj1,rfl⟩;refine⟨_,C7 (aB4 (S8 (A1 (G9 rfl) A7)) A6),?_⟩;have el:(nI ((q++[1]).drop j1).reverse).length=k1+1:=by rw[D3,Ae1,List.length_drop];simp;omega
   rw[el];by_cases hk:k1=0
   ·subst hk;rw[if_neg (by simp)]
    have ej1:j1=q.length:=by omega
    subst ej1;rw[List.take_length];refine bR0 (i:=3) rfl (bR0 (i:=2) rfl ?_);rw[bQ2,bQ4];show W K _ (rh2 m F G (.list ((List.range m).map λj=>lN [s.o0 (j+3),s.o1 (j+3),s.o2 (j+3)])) (.list ((List.range (m+3)).map λz=>.tuple [lN (s.i0 z),lN (s.i1 z),lN (TT.put s.i2 2 q z)])) (nI ([0]:List Nat).reverse) (nI ((q++[1]).drop q.length).reverse) x6 x7 x8 x9 .no .no .no .no) _
    generalize hiD:(PyData.list ((List.range (m+3)).map λz=>.tuple [lN (s.i0 z),lN (s.i1 z),lN (TT.put s.i2 2 q z)]))=iD
    generalize hoD:(PyData.list ((List.range m).map λj=>lN [s.o0 (j+3),s.o1 (j+3),s.o2 (j+3)]))=oD
    generalize hpD:nI ([0]:List Nat).reverse=pD;generalize hhD:nI ((q++[1]).drop q.length).reverse=hD;show W K _ (rh2 m F G oD iD pD hD x6 x7 x8 x9 .no .no .no .no) _;have sqi:sq iD=some ((List.range (m+3)).map λz=>.tuple [lN (s.i0 z),lN (s.i1 z),lN (TT.put s.i2 2 q z)]):=by rw[<- hiD];rfl
    have sqo:sq oD=some ((List.range m).map λj=>lN [s.o0 (j+3),s.o1 (j+3),s.o2 (j+3)]):=by rw[<- hoD];rfl
    have L0:=Lm 0
    have L1:=Lm 1
    have L2':=Lm 2
    rw[R0]at L0;rw[R1]at L1;rw[R2]at L2';simp only[List.length_cons,Ab7,Ae1,List.length_nil]at L0 L1 L2';refine B1 (K2 (ds:=[lN (s.row 0)]) (J4 (A1 (EF.toN (S5 (l:=[1]++s.i0 0) (l':=[2]) (EF.e' (S5 (l:=[1]) (l':=s.i0 0) (EF.e' (J4 (A1 A6 A7))) (G5 (G5 (A2 rfl) A6 sqi (aD0 (q:=0) (by omega))) A6 rfl rfl) (by simp;omega))) (EF.e' (J4 (A1 A6 A7))) (by simp;omega)) (by rw[R0];simp)) A7)) ?_ (show 10<14 by decide))
    show W K _ (rh2 m F G oD iD pD hD x6 x7 x8 x9 (.own [lN (s.row 0)]) .no .no .no) _
    refine B1 (R5 (d:=lN (s.row 1)) rfl (EF.toN (S5 (l:=[2]++(s.i1 1).reverse) (l':=[0]) (EF.e' (S5 (l:=[2]) (l':=(s.i1 1).reverse) (EF.e' (J4 (A1 A6 A7))) (EF.e' (bL8 (G5 (G5 (A2 rfl) A6 sqi (aD0 (q:=1) (by omega))) A6 rfl rfl))) (by simp;omega))) (EF.e' (J4 (A1 A6 A7))) (by simp;omega)) (by rw[R1];simp)) (by show 1<_;unfold PySem.sizeLine;omega) ?_ (bE3 b6 b7 b8 b9 rfl rfl rfl rfl))
    show W K _ (rh2 m F G oD iD pD hD x6 x7 x8 x9 (.own [lN (s.row 0),lN (s.row 1)]) .no .no .no) _
    refine B1 (R5 (d:=lN (s.row 2)) rfl (EF.toN (S5 (l:=[0]++TT.put s.i2 2 q 2) (l':=[1]) (EF.e' (S5 (l:=[0]) (l':=TT.put s.i2 2 q 2) (EF.e' (J4 (A1 A6 A7))) (G5 (G5 (A2 rfl) A6 sqi (aD0 (q:=2) (by omega))) A6 rfl rfl) (by rw[TT.B3];simp;omega))) (EF.e' (J4 (A1 A6 A7))) (by rw[TT.B3];simp;omega)) (by rw[R2,TT.B3];simp)) (by show 2<_;unfold PySem.sizeLine;omega) ?_ (bE3 b6 b7 b8 b9 rfl rfl rfl rfl))
    show W K _ (rh2 m F G oD iD pD hD x6 x7 x8 x9 (.own ((List.range (0+3)).map λz=>lN (s.row z))) .no .no .no) _
    refine B1 (P4 (P7 (A1 (S8 (A1 (A2 rfl) A7) sqo) A7) ?_ ?_) (λv ρ=>∃x11 x12 x13,(x11.nb=true/\x12.nb=true/\x13.nb=true)/\ρ=rh2 m F G oD iD pD hD x6 x7 x8 x9 (.own ((List.range (v+3)).map λz=>lN (s.row z))) x11 x12 x13) ⟨.no,.no,.no,⟨rfl,rfl,rfl⟩,rfl⟩ ?_ ?_)
    ·simp <;> omega
    ·simp <;> omega
    ·rintro v d _ hd ⟨x11,x12,x13,⟨b11,b12,b13⟩,rfl⟩;obtain ⟨rfl,hv⟩:=Q1 hd;have hv:v<m:=by simpa using hv
     have e3:(3:Int)+(v:Int)=((v+3:Nat):Int):=by omega
     have i2v:TT.put s.i2 2 q (v+3)=s.i2 (v+3):=TT.B5 (by omega)
     have Rv:=RI (v+3) (by omega) (by omega)
     have Lv:=Lm (v+3)
     rw[Rv]at Lv;simp only[List.length_cons,Ab7,Ae1]at Lv;refine⟨_,B9,?_⟩;refine B1 (L8 (d:=.tuple [lN (s.i0 (v+3)),lN (s.i1 (v+3)),lN (s.i2 (v+3))]) (G5 (A2 rfl) (K5 A6 (A2 rfl)) sqi ?_) ?_)
     ·rw[e3,aD0 (by omega),i2v]
     show W K _ (rh2 m F G oD iD pD hD x6 x7 x8 x9 (.own ((List.range (v+3)).map λz=>lN (s.row z))) (.val (.int (v:Int))) (.val (.tuple [lN (s.i0 (v+3)),lN (s.i1 (v+3)),lN (s.i2 (v+3))])) x13) _
     refine B1 (K2 (ds:=nI ([s.o0 (v+3)]++s.i2 (v+3)++[s.o1 (v+3)]++s.i0 (v+3))) (S5 (EF.e' (S5 (l':=[s.o1 (v+3)]) (EF.e' (S5 (l:=[s.o0 (v+3)]) (EF.e' (J4 (A1 (G5 (d':=.int (s.o0 (v+3):Nat)) (G5 (A2 rfl) (A2 rfl) sqo (aD0 hv)) A6 rfl rfl) A7) (show 1<=16777216 by decide))) (G5 (A2 rfl) A6 rfl rfl) (by simp;omega)))
      (EF.e' (J4 (A1 (G5 (d':=.int (s.o1 (v+3):Nat)) (G5 (A2 rfl) (A2 rfl) sqo (aD0 hv)) A6 rfl rfl) A7) (show 1<=16777216 by decide))) (by simp;omega))) (G5 (A2 rfl) A6 rfl rfl) (by simp;omega)) ?_ (show 13<14 by decide))
     show W K _ (rh2 m F G oD iD pD hD x6 x7 x8 x9 (.own ((List.range (v+3)).map λz=>lN (s.row z))) (.val (.int (v:Int))) (.val (.tuple [lN (s.i0 (v+3)),lN (s.i1 (v+3)),lN (s.i2 (v+3))])) (.own (nI ([s.o0 (v+3)]++s.i2 (v+3)++[s.o1 (v+3)]++s.i0 (v+3))))) _
     refine R5 (ds:=(List.range (v+3)).map λz=>lN (s.row z)) (d:=lN (s.row (v+3))) rfl (EF.toN (S5 (l:=[s.o0 (v+3)]++s.i2 (v+3)++[s.o1 (v+3)]++s.i0 (v+3)++[s.o2 (v+3)]) (l':=(s.i1 (v+3)).reverse) (EF.e' (S5 (l:=[s.o0 (v+3)]++s.i2 (v+3)++[s.o1 (v+3)]++s.i0 (v+3)) (l':=[s.o2 (v+3)]) (G9 rfl) (EF.e' (J4 (A1 (G5 (d':=.int (s.o2 (v+3):Nat)) (G5 (A2 rfl) (A2 rfl) sqo (aD0 hv)) A6 rfl rfl) A7) (show 1<=16777216 by decide))) (by simp;omega)))
      (EF.e' (bL8 (G5 (A2 rfl) A6 rfl rfl))) (by simp;omega)) (by rw[Rv];simp)) ?_ ⟨.val (.int (v:Int)),.val (.tuple [lN (s.i0 (v+3)),lN (s.i1 (v+3)),lN (s.i2 (v+3))]),.own (nI ([s.o0 (v+3)]++s.i2 (v+3)++[s.o1 (v+3)]++s.i0 (v+3))),⟨rfl,rfl,rfl⟩,?_⟩ (bE3 b6 b7 b8 b9 rfl rfl rfl rfl)
     ·rw[Aa3,List.length_range];unfold PySem.sizeLine;omega
     ·have er:(List.range (v+3)).map (λz=>lN (s.row z))++[lN (s.row (v+3))]=(List.range (v+1+3)).map λz=>lN (s.row z):=by
       rw[show v+1+3=(v+3)+1 by omega,List.range_succ (n:=v+3),Ad2];rfl
      rw[er];rfl
    rintro _ ⟨x11,x12,x13,⟨b11,b12,b13⟩,rfl⟩;rw[O0];have e4:((((List.range m).map λj=>lN [s.o0 (j+3),s.o1 (j+3),s.o2 (j+3)]).length:Int)).toNat=m:=by simp
    rw[e4];refine bY9 (i:=10) rfl ?_;exact L9 (N5 (A1 (A2 rfl) (A1 (A2 rfl) A7))) (by rw[<- hoD])
   ·have hd:decide (((k1+1:Nat):Int)>1)=true:=by simp;omega
    rw[hd,if_pos rfl];have hlt:j1<q.length:=by omega
    have e1:(q++[1]).drop j1=q[j1]::(q++[1]).drop (j1+1):=by
     rw[List.drop_eq_getElem_cons (by simp;omega),List.getElem_append_left hlt]
    have e2:q.take (j1+1)=q.take j1++[q[j1]]:=List.take_succ_eq_append_getElem hlt
    refine bH7 (i:=3) (j:=5) (d:=.int (q[j1]:Nat)) (u0:=E6 (m+3) s.i0 s.i1 (TT.put s.i2 2 (q.take j1))) (π:=[]++[2]++[2]) (aC7 2 (aC7 2 aA6 A6 rfl (λu _=>⟨u,rfl⟩)) A6 rfl (λu0 h=>by cases h;exact⟨_,aA9 (by omega)⟩))
     (bE6 (ds:=nI ((q++[1]).drop (j1+1)).reverse) ?_ (W6 b6 b7 b8 b9)) (by decide) ⟨_,rfl,rfl⟩ rfl rfl (bK7 (by omega)) ?_ ⟨k1-1,by omega,j1+1,by omega,?_⟩ (W6 (m:=m) (F:=F) (G:=G) (o:=M3 m s.o0 s.o1 s.o2) (i:=E6 (m+3) s.i0 s.i1 (TT.put s.i2 2 (q.take j1))) (p:=[0]) (h:=(q++[1]).drop (j1+1)) b6 b7 b8 b9)
    ·show some (Sl.own (nI ((q++[1]).drop j1).reverse))=_
     rw[e1,List.reverse_cons,y2];rfl
    ·rw[Aa3,TT.B3,Ad1];unfold PySem.sizeLine;omega
    ·rw[aZ7 (by omega),bJ9,TT.B3,<- e2];rfl
  ·have hd:decide (((k0+1:Nat):Int)>1)=true:=by simp;omega
   rw[hd,if_pos rfl];obtain ⟨x,hx⟩:∃x,s.path[j]? = some x:=⟨_,Aa2 (by omega)⟩
   have e1:s.path.drop j=x::s.path.drop (j+1):=by
    obtain ⟨h1,h2⟩:=Ab0.mp hx;rw[<- h2];exact List.drop_eq_getElem_cons h1
   have e2:s.h1 (j+1)=x::s.h1 j:=by
    unfold TT.S.h1;obtain ⟨h1,h2⟩:=Ab0.mp hx;rw[List.take_succ_eq_append_getElem h1,h2];simp
   refine aF0 (ds:=nI (s.h1 j).reverse) (bE6 (d:=.int (x:Int)) (ds:=nI (s.path.drop (j+1)).reverse) ?_ (W6 b6 b7 b8 b9)) rfl rfl ?_ ⟨k0-1,by omega,j+1,by omega,?_⟩ (W6 (m:=m) (F:=F) (G:=G) (o:=M3 m s.o0 s.o1 s.o2) (i:=E6 (m+3) s.i0 s.i1 s.i2) (p:=s.path.drop (j+1)) (h:=s.h1 j) b6 b7 b8 b9)
   ·show some (Sl.own (nI (s.path.drop j).reverse))=_
    rw[e1];simp[nI]
   ·rw[D3,Ae1];unfold TT.S.h1 PySem.sizeLine;simp only[Ab7,Ae1,Ad1];omega
   ·rw[e2];unfold rh
    simp[nI]
end
theorem aH9:D7 ["_law_script", "_law_k"] ["_law_script", "_law_k"] (A9 M2):=⟨rfl,rfl,rfl,by decide +kernel,rfl,by decide +kernel,by decide +kernel⟩
theorem sc__law_begun:D7 ["_law_turn", "_law_at"] ["_law_turn"] (A9 O3):=⟨rfl,rfl,rfl,by decide +kernel,rfl,by decide +kernel,by decide +kernel⟩
theorem cP9 {K:PySem.W.Frag}{pre:List PyData->List PyData->Prop}{n:Nat}(h:∀ds d,pre ds d->ds.length=n):∀vs H Q E,spL K pre vs H Q E->vs.length=n:=λvs H Q E ⟨ds,S,d,_,r,p,_⟩=>by
 have e:=r.length
 rw[e];exact h ds d p
def cl (ns:List Int)(k:Int):Int:=(ns[k.toNat]?).getD 0
def cB7 (ds:List PyData)(d:PyData):Prop:=∃ns k,0<=k/\ds=[lI ns,.int k]/\d=.int (cl ns k)
def tN (l:List Nat):PyData:=.tuple (nI l)
def bS6 (ds:List PyData)(d:PyData):Prop:=∃l:List Nat,l≠[]/\l.length<=10000/\ds=[lN l]/\d=tN (TT.U6 l)
theorem aB2 (M:Nat):∀l:List Nat,(l.map λ(x:Nat)=>(x:Int)).idxOf (M:Int)=l.idxOf M
 | []=>rfl
 | b::l=>by
  rw[Ac7,List.idxOf_cons,List.idxOf_cons,aB2 M l];by_cases e:b=M
  ·subst e;simp
  ·have e':¬(b:Int)=(M:Int):=by omega
   have h1:(b==M)=false:=by simpa using e
   have h2:((b:Int)==(M:Int))=false:=by simpa using e'
   rw[h1,h2]
section
variable {P:Program}{w:World}{K:PySem.W.Frag}{mg:Str->Option Value}{base:Heap}{a:Ad}
theorem bL9 (T:Tx K mg a):G3 P w K mg base CX0 1 a.V6 a.W0 ["_law_script", "_law_k"] (spV K cB7):=by
 refine T.N7.ok aH9 (X3 λds d ⟨_,_,_,e,_⟩=>by rw[e];rfl) (λcdv A outer s H vs Q E hr h=>?_)
 obtain ⟨ds,S,d,hS,r,⟨ns,k,h0,rfl,rfl⟩,q⟩:=h;refine⟨_,(A5 (R7 (C1 aQ8 (pv 1) (C3 L4 (by rfl) T.P1 PySem.boot_len (A0 (pv 0) A3)) (E2 _)) (A8 (C9 (B7 C2 (pv 0) (pv 1) (λ_ _=>rfl)))) K4)
   (A8 (C9 A4))),M1 hS r ?_ q⟩
 refine B1 (m6 (C7 (aB4 (A2 rfl) (S8 (A1 (A2 rfl) A7)))) (λh=>(L9 (d:=.int (cl ns k)) (G5 (A2 rfl) (A2 rfl) rfl ?_) rfl)) (λh=>N1 ?_))
 ·have h:k<(ns.map PyData.int).length:=of_decide_eq_true h
  rw[Aa3]at h;refine K0 k.toNat (by omega) ?_
  have hl:k.toNat<ns.length:=by omega
  rw[Aa9,Aa2 hl];unfold cl;rw[Aa2 hl];rfl
 have h:¬k<((ns.map PyData.int).length:Int):=of_decide_eq_false h
 rw[Aa3]at h;refine(L9 A6 ?_);show PyData.int 0=.int (cl ns k);unfold cl;rw[Ad6 (by omega)];rfl
theorem bW4 (T:Tx K mg a):G3 P w K mg base CX0 1 a.Z6 a.j7 ["_law_turn"] (spV K bS6):=by
 refine T.aE3.ok sc__law_begun (X3 λds d ⟨_,_,_,e,_⟩=>by rw[e];rfl) (λcdv A outer s H vs Q E hr h=>?_)
 obtain ⟨ds,S,d,hS,r,⟨l,hne,hl,rfl,rfl⟩,q⟩:=h;refine⟨_,(A5 (B6 (i:=1) sc__law_begun.nd rfl (Or.inl rfl) (N4 Ab1 PySem.F.slot_list_index PySem.F.type_list_index (aQ7 K) (pv 0) (A0 (C3 (bP1 K rfl) (by rfl) T.bB7 boot_min (A0 (pv 0) A3)) A3)))
   (A8 (C9 (M0 P5 (by rfl) T.M6 boot_tuple (A0 (B2 (M7 K) (V4 aY2 (pv 0) (W4 (pv 1)) t5) (V4 aY2 (pv 0) t5 (W4 (pv 1)))) A3))))),M1 hS r ?_ q⟩
 obtain ⟨hm1,hm2⟩:=TT.cF0 hne;have el:lN l=lI (l.map λ(x:Nat)=>(x:Int)):=by unfold lN lI nI;simp
 have hM:((TT.mn l:Nat):Int)∈(l.map λ(x:Nat)=>(x:Int))/\∀z∈(l.map λ(x:Nat)=>(x:Int)),((TT.mn l:Nat):Int)<=z:=⟨Aa8.mpr ⟨_,hm1,rfl⟩,λz hz=>by
  obtain ⟨y,hy,rfl⟩:=Aa8.mp hz
  have:=hm2 y hy
  omega⟩
 have hix:=aB2 (TT.mn l) l
 have hidx:l.idxOf (TT.mn l)<=l.length:=Nat.le_of_lt (Ac4 hm1)
 refine B1 (L8 (d:=.int (l.idxOf (TT.mn l):Nat)) ?_ ?_)
 ·have h:=bC1 (K:=K) (m:=true) (ρ:=sl0 ["_law_turn", "_law_at"].length [lI (l.map λ(x:Nat)=>(x:Int))]) (ta:=D9 0) (A2 (i:=0) rfl) (cT0 (A1 (A2 (i:=0) rfl) A7) hM) hM.1
  rw[hix]at h;rw[el];exact h
 refine L9 (U9 (A1 (EF.e' (aL0 (EF.e' (bD8 (ds:=nI l) (A2 rfl) (m8 (A2 rfl)) aG1 (E7 l))) (EF.e' (bD8 (ds:=nI l) (A2 rfl) aG1 (m8 (A2 rfl)) (E7 l))) (P6 _ _ (E7 l)) (P6 _ _ (E7 l)) ?_)) A7) ?_) ?_
 ·rw[aF2 (by rw[D3];exact hidx),aJ5 (by rw[D3];exact hidx),List.length_drop,Ad1,D3];unfold PySem.sizeLine;omega
 ·rw[o4,P6 _ _ (E7 l),P6 _ _ (E7 l)];rfl
 ·show PyData.tuple _=tN _
  rw[aF2 (by rw[D3];exact hidx),aJ5 (by rw[D3];exact hidx)]
  unfold tN TT.U6 nI
  simp
end
end K18
namespace LV
open PySem L2
section
variable {K:PySem.W.Frag}{ρ ρ' ρ1:List Sl}{m m':Bool}{t ta tb tc:TE}{d d':PyData}{ds es:List PyData}
theorem bU2 {i:Nat}{k:Int}{R:AE}(n:Nat)(he:E K true t ρ d)(hi:ρ[i]? = some (.own ds))(hk:E K false tb ρ (.int k))(hkn:k=n)(hn':n<ds.length)(hn:R.nx (ρ.set i (.own (ds.set n d))))(nb:S7 ρ=true:=by rfl) :
  W K (aO4 t (cJ3 (D9 i) tb bW7)) ρ R:=λS B D σ H o I s=>by
 refine he S B σ H o I _ λx H0 s0 rx=>?_
 obtain ⟨p,hp,a,xs,b,c⟩:=(I.grow s0).own i ds hi;refine⟨_,a,?_⟩;refine hk S B σ H0 o (I.grow s0) _ λw H2 s2 rw_=>?_
 cases rw_
 have hl:=c.length
 refine⟨p,xs,k,n,rfl,rfl,s2 _ _ b,by unfold ixN;rw[if_pos (by omega),if_pos (by omega)];simp[hkn],?_⟩
 exact s.nx _ σ _ _ (((I.grow s0).grow s2).upd hi hp ((c.mono (K1 s2)).set n (rx.mono (K1 s2))) (L6 nb)) hn
theorem Reps.rep {H:Hp}{xs:List V}(r:Reps K H xs ds):∀n:Nat,Reps K H (List.replicate n xs).flatten (List.replicate n ds).flatten
 | 0=>.nil
 | n+1=>by
  rw[List.replicate_succ,List.replicate_succ,List.flatten_cons,List.flatten_cons];exact r.append (Reps.rep r n)
theorem bC6 (h:J8 ds=true):∀n:Nat,J8 (List.replicate n ds).flatten=true
 | 0=>rfl
 | n+1=>by rw[List.replicate_succ,List.flatten_cons,o4,h,bC6 h n];rfl
theorem bZ0 {k:Int}(ha:EF K ta ρ ds)(hb:E K false tb ρ (.int k))(hi:J8 ds=true)(h1 : -(2^63)<=k)(h2:k<2^63)(hl:ds.length*k.toNat<=sizeLine):EF K (tOp cQ0 ta tb) ρ (List.replicate k.toNat ds).flatten:=λS B σ H o I Q q=>
 ha S B σ H o I _ λp xs H1 s1 n1 e1 r1=>hb S B σ H1 o (I.grow s1) _ λy H2 s2 ry=>by
  cases ry
  have r2:Reps K H2 xs ds:=(r1.mono X2).mono s2
  refine⟨p,k,xs,rfl,rfl,s2 _ _ e1,h1,h2,by rw[r2.length];exact hl,λp' hp'=>?_⟩
  exact q p' _ _ (L2.Same.tr (L2.Same.tr s1 s2) (D5 hp')) (T8 (L2.Same.tr s1 s2) hp') C0 (s9 (I.grow (L2.Same.tr s1 s2)).lists hp' (r2.rep _) (bC6 hi _))
end
section
variable {K:PySem.W.Frag}{ρ ρ' ρ1:List Sl}{m m':Bool}{t ta tb tc:TE}{d d':PyData}{ds es:List PyData}
theorem aZ1 {H:Hp}:∀{ts:List (List Int)} {vs:List V},Reps K H vs (ts.map tI)->(∀t∈ts,t≠[])->TupsV K H vs ts
 | [],_,r,_=>by cases r;exact trivial
 | t::ts,_,r,h=>by
  cases r with
  | cons a b=>
   refine⟨?_,aZ1 b λt ht=>h t (by simp[ht])⟩
   cases a with
   | tup s r=>rw[r.ints]at s;exact⟨_,rfl,s,h t (by simp)⟩
theorem aQ4 {H:Hp}{vs:List V}{ts:List (List Int)}(r:Reps K H vs (ts.map tI)):∀{q:List Nat},(∀i∈q,i<vs.length)->Reps K H (q.map λi=>vs.getD i .non) ((q.map λi=>ts.getD i []).map tI)
 | [],_=>.nil
 | i::q,h=>by
  have hi:=h i (by simp)
  have hl:=r.length
  rw[Aa3]at hl;obtain ⟨v,h1,h2⟩:=r.get' (i:=i) (d:=tI (ts.getD i [])) (by
   rw[Aa9,Aa2 (by omega)]
   simp[List.getD,Aa2 (show i<ts.length by omega)])
  have e:vs.getD i .non=v:=by simp[List.getD,h1]
  rw[Ac7,Ac7,Ac7,e];exact .cons h2 (aQ4 r λj hj=>h j (by simp[hj]))
theorem bC3 {t:TA}{ts ss:List (List Int)}(ha:A K false t ρ [.list (ts.map tI)])(hne:∀t∈ts,t≠[])(h64:ts.length<64)(hp:ss.Perm ts)(hs:ss.Pairwise K6) :
  EF K (tCB (λxs H Q=>∃(p:Addr) (ys:List V) (ts:List (List Int)),xs=[.ref p]/\SqL K H p ys/\TupsV K H ys ts/\ys.length<64 /\
   ∀a (q:List Nat),H a=none->q.Perm (List.range ys.length)->(q.map λi=>ts.getD i []).Pairwise K6->Q (.ref a) (upd H a (.lst (q.map λi=>ys.getD i .non)))) t) ρ (ss.map tI):=
 cG5 ha (Y8 bR2 ss) λH vs Q r q=>by
  cases r with
  | cons a b=>
   cases b
   cases a with
   | @lst p xs _ s r=>
    have hl:=r.length
    rw[Aa3]at hl;refine⟨p,xs,ts,rfl,s,aZ1 r hne,by omega,λa qs h1 h2 h3=>q a _ h1 ?_⟩
    have e:(qs.map λi=>ts.getD i [])=ss:=by
     have hperm:(qs.map λi=>ts.getD i []).Perm ts:=by
      have h4:(qs.map λi=>ts.getD i []).Perm ((List.range xs.length).map λi=>ts.getD i []):=h2.map _
      have h5:(List.range xs.length).map (λi=>ts.getD i [])=ts:=by
       refine List.ext_getElem? λj=>?_
       by_cases hj:j<xs.length
       ·rw[S3 hj];simp[List.getD,Aa2 (show j<ts.length by omega)]
       ·rw[Ad6 (by simp;omega),Ad6 (by omega)]
      rw[h5]at h4;exact h4
     exact List.Perm.eq_of_pairwise (le:=K6) (λa b _ _ h1 h2=>aM7 a b h1 h2) h3 hs (hperm.trans hp.symm)
    have:=aQ4 r (q:=qs) λi hi=>Ab5.mp (h2.mem_iff.mp hi)
    rw[e]at this;exact this
end
end LV
namespace K18
open PySem L2 LV PyProof.Rows
theorem sc__law_mixed:D7 ["_law_cell", "_law_k", "_law_number"] ["_law_cell", "_law_k"] (A9 O4):=⟨rfl,rfl,rfl,by decide +kernel,rfl,by decide +kernel,by decide +kernel⟩
theorem bX7 {i j:Int}(h : -1000000000000000000<i/\i<1000000000000000000)(h' : -1000000000000000000<j/\j<1000000000000000000):CMulB i j:=by
 have:(1000000000000000000:Nat)<2^512:=by decide
 constructor <;> omega
def mx0 (c k:Int):Int:=(c % 1000000007*(k+3)*48271+(k+1)*(k+5)*69621) % 2147483647
def mx (c k:Int):Int:=mx0 c k*40692 % 2147483399
theorem cU3 (c k:Int):0<=mx0 c k/\mx0 c k<2147483647:=⟨Int.emod_nonneg _ (by decide),Int.emod_lt_of_pos _ (by decide)⟩
theorem cX0 (c k:Int):0<=mx c k/\mx c k<2147483399:=⟨Int.emod_nonneg _ (by decide),Int.emod_lt_of_pos _ (by decide)⟩
def bD5 (ds:List PyData)(d:PyData):Prop:=∃c k,(0<=k/\k<=1000)/\ds=[.int c,.int k]/\d=.int (mx c k)
theorem bU9 {x y A B:Int}(h:0<=x/\x<=A)(h':0<=y/\y<=B):0<=x*y/\x*y<=A*B:=⟨Int.mul_nonneg h.1 h'.1,Int.mul_le_mul h.2 h'.2 h'.1 (Int.le_trans h.1 h.2)⟩
section
variable {P:Program}{w:World}{K:PySem.W.Frag}{mg:Str->Option Value}{base:Heap}{a:Ad}
theorem aJ8 (T:Tx K mg a):G3 P w K mg base CX0 1 a.e8 a.d5 ["_law_cell", "_law_k"] (spV K bD5):=by
 refine T.Q9.ok sc__law_mixed (X3 λds d ⟨_,_,_,e,_⟩=>by rw[e];rfl) (λcdv A outer s H vs Q E hr h=>?_)
 obtain ⟨ds,S,d,hS,r,⟨c,k,⟨h0,h1⟩,rfl,rfl⟩,q⟩:=h;have b1:0<=c % 1000000007/\c % 1000000007<=1000000007:=⟨Int.emod_nonneg _ (by decide),Int.le_of_lt (Int.emod_lt_of_pos _ (by decide))⟩
 have b2:=bU9 b1 (y:=k+3) (B:=2000) ⟨by omega,by omega⟩
 have b3:=bU9 (x:=k+1) (A:=2000) (y:=k+5) (B:=2000) ⟨by omega,by omega⟩ ⟨by omega,by omega⟩
 have b4:=cU3 c k
 refine⟨_,(A5 (B6 (i:=2) sc__law_mixed.nd rfl (Or.inl rfl) (B2 U1 (B2 D1 (B2 aD1 (B2 aD1 (B2 U1 (pv 0) A4) (B2 D1 (pv 1) A4)) A4) (B2 aD1 (B2 aD1 (B2 D1 (pv 1) A4) (B2 D1 (pv 1) A4)) A4)) A4))
   (A8 (C9 (B2 U1 (B2 aD1 (pv 2) A4) A4)))),M1 hS r ?_ q⟩
 refine B1 (L8 (d:=.int (mx0 c k)) (e_i (K5 (e_i (e_i (e_i (A2 rfl) A6 ?_) (K5 (A2 rfl) A6) ?_) A6 ?_) (e_i (e_i (K5 (A2 rfl) A6) (K5 (A2 rfl) A6) ?_) A6 ?_)) A6 ?_) ?_)
 ·decide
 ·exact bX7 (by omega) (by omega)
 ·exact bX7 (by omega) (by omega)
 ·exact bX7 (by omega) (by omega)
 ·exact bX7 (by omega) (by omega)
 ·decide
 exact L9 (d:=.int (mx c k)) (e_i (e_i (A2 rfl) A6 (bX7 (by omega) (by omega))) A6 (by decide)) rfl
end
end K18
namespace TT
def pk:Nat->Int->List Nat->List Nat
 | 0,_,_=>[]
 | n+1,r,l=>l.getD (r % l.length).toNat 0::pk n (r / l.length) (l.eraseIdx (r % l.length).toNat)
theorem bN8 {r:Int}{l:List Nat}(h:l≠[]):(r % l.length).toNat<l.length:=by
 have hl:0<l.length:=List.length_pos_iff.mpr h
 have h1:=Int.emod_nonneg r (b:=(l.length:Int)) (by omega)
 have h2:=Int.emod_lt_of_pos r (b:=(l.length:Int)) (by omega)
 omega
theorem aK0:∀(l:List Nat) (i:Nat) (h:i<l.length),(l[i]::l.eraseIdx i).Perm l
 | a::l,0,h=>.refl _
 | a::l,i+1,h=>by
  have ih:=aK0 l i (by simpa using h)
  simp only[List.getElem_cons_succ,List.eraseIdx_cons_succ];exact(List.Perm.swap _ _ _).trans (ih.cons a)
theorem aU5:∀(n:Nat) (r:Int) (l:List Nat),l.length=n->(pk n r l).Perm l
 | 0,r,l,h=>by rw[List.length_eq_zero_iff.mp h];exact .nil
 | n+1,r,l,h=>by
  have hne:l≠[]:=λe=>by rw[e]at h;simp at h
  have hi:=bN8 (r:=r) hne
  unfold pk;have e:l.getD (r % l.length).toNat 0=l[(r % l.length).toNat]:=by simp[List.getD,Aa2 hi]
  rw[e];have ih:=aU5 n (r / l.length) (l.eraseIdx (r % l.length).toNat) (by rw[List.length_eraseIdx_of_lt hi];omega)
  exact(ih.cons _).trans (aK0 l _ hi)
theorem cP2 {m:Nat}{l:List Nat}(h:l.Perm ((List.range m).map (· + 3))):Nm (m+3) λv=>([0,1,2]++l).getD v 0:=by
 have hl:l.length=m:=by rw[h.length_eq];simp
 have nd:([0,1,2]++l).Nodup:=by
  have h1:l.Nodup:=h.nodup_iff.mpr (Ae0.mpr (List.nodup_range.imp λh e=>h (by omega)))
  have h2:∀x∈l,3<=x:=λx hx=>by
   obtain ⟨y,_,e⟩:=Aa8.mp (h.mem_iff.mp hx);omega
  refine Aa4.mpr ⟨by decide,h1,λa ha b hb e=>?_⟩
  have:=h2 b hb
  simp at ha;omega
 have lt:∀x∈[0,1,2]++l,x<m+3:=λx hx=>by
  rcases Aa0.mp hx with hx | hx
  ·simp at hx;omega
  ·obtain ⟨y,hy,e⟩:=Aa8.mp (h.mem_iff.mp hx)
   have:=Ab5.mp hy
   omega
 have len:([0,1,2]++l).length=m+3:=by simp[hl]
 have at_:∀v,(hv:v<m+3)->([0,1,2]++l).getD v 0=([0,1,2]++l)[v]'(by omega):=λv hv=>by rw[Ac0,Aa2 (by omega)];rfl
 refine⟨λv hv=>?_,λv w hv hw e=>?_,rfl,rfl,rfl⟩
 ·show([0,1,2]++l).getD v 0<m+3
  rw[at_ v hv];exact lt _ (List.getElem_mem _)
 ·have e:([0,1,2]++l).getD v 0=([0,1,2]++l).getD w 0:=e
  rw[at_ v hv,at_ w hw]at e;exact(List.getElem_inj nd).mp e
end TT
namespace K18
open PySem L2 LV PyProof.Rows
theorem sc__law_names:D7 ["_law_cell", "_law_m", "_law_names_here", "_law_rest", "_law_k", "_law_left", "_law_ranks"] ["_law_cell", "_law_m"] (A9 O2):=⟨rfl,rfl,rfl,by decide +kernel,rfl,by decide +kernel,by decide +kernel⟩
def rs (c:Int):Nat->Int
 | 0=>c / 2
 | j+1=>rs c j / 4096
def prs (c:Int)(m:Nat):List (List Int):=(List.range m).map λ(k:Nat)=>[mx c (40+(k:Int)),(k:Int)]
def srt (c:Int)(m:Nat):List (List Int):=(prs c m).mergeSort λa b => !HT.W1 b a
def nm (c:Int)(m:Nat):List Nat:=[0,1,2]++(if c % 2=1 then TT.pk m (rs c m) ((List.range m).map (· + 3)) else(srt c m).map λt=>(t.getD 1 0).toNat+3)
theorem n8 (c:Int)(m:Nat):(srt c m).Perm (prs c m):=List.mergeSort_perm _ _
theorem bX8 (c:Int)(m:Nat):(srt c m).Pairwise K6:=by
 have:=List.pairwise_mergeSort (le:=λa b:List Int => !HT.W1 b a) (λa b d h1 h2=>by
  have:=u5 a b d (by unfold K6;simpa using h1) (by unfold K6;simpa using h2)
  unfold K6 at this;simp[this]) (λa b=>by
  rcases aP5 a b with h | h <;> unfold K6 at h <;> simp[h]) (prs c m)
 refine this.imp λh=>?_
 unfold K6;simpa using h
theorem cT3 (c:Int)(m:Nat):TT.Nm (m+3) λv=>(nm c m).getD v 0:=by
 unfold nm;refine TT.cP2 ?_;split
 ·exact TT.aU5 _ _ _ (by simp)
 ·refine((n8 c m).map _).trans ?_
  have:(prs c m).map (λt=>(t.getD 1 0).toNat+3)=(List.range m).map (· + 3):=by
   unfold prs;rw[Ae2];rfl
  rw[this]
theorem cN7 (c:Int)(m:Nat):(nm c m).length=m+3:=by
 unfold nm;split
 ·rw[Ab7,(TT.aU5 m (rs c m) _ (by simp)).length_eq];simp;omega
 ·rw[Ab7,Aa3,(n8 c m).length_eq];simp[prs];omega
def bS4 (ds es:List PyData):Prop:=∃(c:Int) (m:Nat),m<=20/\ds=[.int c,.int (m:Int)]/\es=nI (nm c m)
theorem aQ2 {α β:Type}{f:α->β}:∀(l:List α) (n:Nat),(l.map f).eraseIdx n=(l.eraseIdx n).map f
 | [],n=>rfl
 | a::l,0=>rfl
 | a::l,n+1=>by simp[List.eraseIdx_cons_succ,aQ2 l n]
def f1 (c:Int):PyData->Option PyData
 | .int k=>some (tI [mx c (40+k),k])
 | _=>none
def f2:PyData->Option PyData
 | .tuple [_,.int k]=>some (.int (3+k))
 | _=>none
theorem U0 {α β:Type}{f g:α->Option β}:∀{l:List α},(∀x∈l,f x=g x)->l.filterMap f=l.filterMap g
 | [],_=>rfl
 | a::l,h=>by rw[List.filterMap_cons,List.filterMap_cons,h a (by simp),U0 λx hx=>h x (by simp[hx])]
theorem cO2 (c:Int)(m:Nat):(T3 0 m).filterMap (f1 c)=(prs c m).map tI:=by
 unfold T3 prs;rw[List.filterMap_map,Ae2,<- List.filterMap_eq_map];refine U0 λx _=>?_
 show f1 c (.int (0+(x:Int)))=_
 rw[Int.zero_add];rfl
theorem bI4 {c:Int}{m:Nat}{t:List Int}(h:t∈srt c m):∃k:Nat,t=[mx c (40+(k:Int)),(k:Int)]:=by
 have:=(n8 c m).mem_iff.mp h
 obtain ⟨k,_,e⟩:=Aa8.mp this;exact⟨k,e.symm⟩
theorem cO6 (c:Int)(m:Nat):((srt c m).map tI).filterMap f2=nI ((srt c m).map λt=>(t.getD 1 0).toNat+3):=by
 unfold nI;rw[List.filterMap_map,Ae2,<- List.filterMap_eq_map];refine U0 λt ht=>?_
 obtain ⟨k,rfl⟩:=bI4 ht;show some (PyData.int (3+(k:Int)))=some (PyData.int ((((k:Int)).toNat+3:Nat):Int))
 congr 2
 omega
theorem nd1:(["_law_k", "_law_cell"]:List Str).Nodup:=by decide +kernel
theorem nd2:(["_law_rank"]:List Str).Nodup:=by decide +kernel
section
variable {P:Program}{w:World}{K:PySem.W.Frag}{mg:Str->Option Value}{base:Heap}{a:Ad}
theorem bS8 (T:Tx K mg a):G3 P w K mg base CX0 2 a.i5 a.i6 ["_law_cell", "_law_m"] (spL K bS4):=by
 have G__law_mixed:G3 P w K mg base CX0 1 _ _ _ _:=aJ8 T
 refine T.aC3.ok sc__law_names (cP9 λds d ⟨_,_,_,e,_⟩=>by rw[e];rfl) (λcdv A outer s H vs Q E hr h=>?_)
 obtain ⟨ds,S,es,hS,r,⟨c,m,hm,rfl,rfl⟩,q⟩:=h;refine⟨_,(A5 (B6 (i:=2) sc__law_names.nd rfl (Or.inl rfl) (C6 (A0 A4 (A0 A4 (A0 A4 A3)))))
   (A5 (R7 (C1 aS2 (B2 U1 (pv 0) A4) A4 (E2 _)) (A5 (B6 (i:=3) sc__law_names.nd rfl (Or.inl rfl) (B2 u6 (pv 0) A4))
   (A5 (L7 PassesOwn.never rfl (G4 rfl T.G6 (A0 (pv 1) A3)) (B4 (i:=4) sc__law_names.nd rfl (Or.inl rfl)) (A8 (B6 (i:=3) sc__law_names.nd rfl (Or.inl rfl) (B2 u6 (pv 3) A4))))
   (A5 (B6 (i:=5) sc__law_names.nd rfl (Or.inl rfl) (M0 (aO1 rfl) (by rfl) T.q9 boot_list (A0 (cB0 rfl T.G6 (A0 A4 (A0 (B2 D1 (pv 1) A4) A3))) A3)))
   (A5 (L7 PassesOwn.never rfl (G4 rfl T.G6 (A0 (pv 1) A3)) (B4 (i:=4) sc__law_names.nd rfl (Or.inl rfl)) (A5 (H9 (N4 Ab1 PySem.F.slot_list_append PySem.F.type_list_append D8 (pv 2) (A0 (N4 Ab1 PySem.F.slot_list_pop PySem.F.type_list_pop bT3 (pv 5) (A0 (B2 U1 (pv 3) (C3 L4 (by rfl) T.P1 PySem.boot_len (A0 (pv 5) A3))) A3)) A3)))
   (A8 (B6 (i:=3) sc__law_names.nd rfl (Or.inl rfl) (B2 u6 (pv 3) (B2 D1 (C3 L4 (by rfl) T.P1 PySem.boot_len (A0 (pv 5) A3)) A4))))))
   (A8 (C9 (pv 2))))))) K4)
   (A5 (B6 (i:=6) sc__law_names.nd rfl (Or.inl rfl) (C3 (j8 K) (by rfl) T.R8 boot_sorted (A0 (j9 (T:=["_law_k"]) (N':=["_law_k", "_law_cell"]) (is:=[0]) rfl (.of rfl rfl rfl (by exact⟨rfl,trivial⟩) rfl rfl rfl (by first | exact⟨⟨_,rfl,.inl rfl,.inl rfl⟩,trivial⟩ | exact⟨⟨_,rfl,.inr rfl,.inl rfl⟩,trivial⟩)) (G4 rfl T.G6 (A0 (pv 1) A3)) (S0 (by decide)) λ_ _ _ _=>⟨(B4 (i:=0) nd1 rfl (Or.inl rfl)),V5,(G0 (A0 (C4 G__law_mixed (hr.mono (by decide)) rfl T.U7 T.Q9.kp T.U8 .nil J5 (A0 (pv 1) (A0 (B2 D1 A4 (pv 0)) A3))) (A0 (pv 0) A3)))⟩) A3)))
   (A8 (C9 (B2 (M7 K) (pv 2) (j9 (T:=["_law_rank"]) (N':=["_law_rank"]) (is:=[]) rfl (.of rfl rfl rfl trivial rfl rfl rfl trivial) (aJ2 (pv 6)) (S0 (by decide)) λ_ _ _ _=>⟨(B4 (i:=0) nd2 rfl (Or.inl rfl)),V5,(B2 D1 A4 (B7 (ixK K) (pv 0) A4 (λ_ _=>rfl)))⟩))))))),bW3 hS r ?_ q⟩
 refine B1 (K2 (J4 (A1 A6 (A1 A6 (A1 A6 A7)))) ?_ (show 2<7 by decide))
 show W K _ [.val (.int c),.val (.int (m:Int)),.own (nI [0,1,2]),.no,.no,.no,.no] _
 refine B1 (m6 (C7 (aR9 (e_i (A2 rfl) A6 (by decide)) A6)) (λh=>?_) (λh=>N1 ?_))
 ·have h:c % 2=1:=of_decide_eq_true h
  refine B1 (L8 (d:=.int (rs c 0)) (e_i (A2 rfl) A6 ⟨by decide,by decide⟩) ?_)
  refine B1 (P4 (P7 (A1 (A2 rfl) A7) ?_ ?_) (λj ρ=>∃x4,x4.nb=true/\ρ=[.val (.int c),.val (.int (m:Int)),.own (nI [0,1,2]),.val (.int (rs c j)),x4,.no,.no]) ⟨.no,rfl,rfl⟩ ?_ ?_)
  ·omega
  ·omega
  ·rintro j d _ hd ⟨x4,b4,rfl⟩;obtain ⟨rfl,hj⟩:=Q1 hd;refine⟨_,B9,?_⟩;exact L8 (d:=.int (rs c (j+1))) (e_i (A2 rfl) A6 ⟨by decide,by decide⟩) ⟨.val (.int (j:Int)),rfl,rfl⟩
  rintro _ ⟨x4,b4,rfl⟩;rw[O0,Ac8];refine B1 (K2 (ds:=nI ((List.range m).map (· + 3))) ?_ ?_ (show 5<7 by decide))
  ·have:=cK7 (K:=K) (ρ:=[.val (.int c),.val (.int (m:Int)),.own (nI [0,1,2]),.val (.int (rs c m)),x4,.no,.no]) (i:=3) (j:=(m:Int)+3) (A1 A6 (A1 (K5 (A2 (i:=1) rfl) A6) A7)) (by omega)
   have e:T3 3 ((m:Int)+3-3).toNat=nI ((List.range m).map (· + 3)):=by
    have e':((m:Int)+3-3).toNat=m:=by omega
    rw[e'];unfold T3 nI;rw[Ae2];refine List.map_congr_left λx _=>?_
    show PyData.int (3+(x:Int))=PyData.int ((x+3:Nat):Int)
    congr 1;omega
   rw[e]at this;exact this
  refine B1 (P4 (P7 (A1 (A2 rfl) A7) ?_ ?_) (λj ρ=>∃x4 pre l r,x4.nb=true/\TT.pk m (rs c m) ((List.range m).map (· + 3))=pre++TT.pk (m-j) r l/\l.length=m-j/\pre.length<=j/\ρ=[.val (.int c),.val (.int (m:Int)),.own (nI ([0,1,2]++pre)),.val (.int r),x4,.own (nI l),.no]) ⟨x4,[],(List.range m).map (· + 3),rs c m,b4,by simp,by simp,by simp,rfl⟩ ?_ ?_)
  ·omega
  ·omega
  ·rintro j d _ hd ⟨x4,pre,l,r0,b4,hpk,hll,hpl,rfl⟩;obtain ⟨rfl,hj⟩:=Q1 hd;have hj:j<m:=by omega
   have hne:l≠[]:=λe=>by rw[e]at hll;simp at hll;omega
   have hpos:0<l.length:=List.length_pos_iff.mpr hne
   have hlt:=TT.bN8 (r:=r0) hne
   have hnn:=Int.emod_nonneg r0 (b:=(l.length:Int)) (by omega)
   generalize hn:(r0 % (l.length:Int)).toNat=n at hlt;refine⟨_,B9,?_⟩;show W K _ [.val (.int c),.val (.int (m:Int)),.own (nI ([0,1,2]++pre)),.val (.int r0),.val (.int (j:Int)),.own (nI l),.no] _;refine B1 (aF0 (i:=2) (j:=5) (ds:=nI ([0,1,2]++pre)) (d:=.int (l[n]:Nat)) (bZ8 n (ds:=nI l) rfl (e_i (A2 rfl) (S8 (A1 (G9 rfl) A7)) ?_) ?_ ?_ ?_) rfl rfl ?_ ?_)
   ·rw[D3];omega
   ·rw[D3,<- hn];omega
   ·unfold nI;rw[Aa9,Aa2 hlt];rfl
   ·omega
   ·rw[D3];simp;unfold PySem.sizeLine;omega
   have el:(nI l).eraseIdx n=nI (l.eraseIdx n):=by unfold nI;rw[aQ2]
   have el2:((nI (l.eraseIdx n)).length:Int)+1=(l.length:Int):=by rw[D3,List.length_eraseIdx_of_lt hlt];omega
   have ea:nI ([0,1,2]++pre)++[PyData.int (l[n]:Nat)]=nI ([0,1,2]++(pre++[l[n]])):=by simp[nI]
   show W K _ [.val (.int c),.val (.int (m:Int)),.own (nI ([0,1,2]++pre)++[PyData.int (l[n]:Nat)]),.val (.int r0),.val (.int (j:Int)),.own ((nI l).eraseIdx n),.no] _
   rw[el,ea];refine L8 (d:=.int (r0 / (l.length:Int))) ?_ ⟨.val (.int (j:Int)),pre++[l[n]],l.eraseIdx n,r0 / (l.length:Int),rfl,?_,?_,?_,rfl⟩
   ·rw[<- el2];exact e_i (A2 rfl) (K5 (S8 (A1 (G9 rfl) A7)) A6) ⟨by omega,by omega⟩
   ·rw[hpk];obtain ⟨k,hk⟩:∃k,m-j=k+1:=⟨m-j-1,by omega⟩
    have hk':m-(j+1)=k:=by omega
    rw[hk,hk'];show pre++(l.getD (r0 % (l.length:Int)).toNat 0::TT.pk k (r0 / (l.length:Int)) (l.eraseIdx (r0 % (l.length:Int)).toNat))=_;rw[hn,Ac0,Aa2 hlt]
    simp
   ·rw[List.length_eraseIdx_of_lt hlt];omega
   ·simp;omega
  rintro _ ⟨x4,pre,l,r0,b4,hpk,hll,hpl,rfl⟩;rw[O0,Ac8,Nat.sub_self]at hpk;refine bR5 (ds:=nI ([0,1,2]++pre)) rfl ?_;show nI _=nI (nm c m);unfold nm;rw[if_pos h,hpk];simp[TT.pk]
 have h:¬c % 2=1:=of_decide_eq_false h
 have hsl:(srt c m).length=m:=by rw[(n8 c m).length_eq];simp[prs]
 have c1:=T7 (K:=K) (m:=true) (ρ:=[.val (.int c),.val (.int (m:Int)),.own (nI [0,1,2]),.no,.no,.no,.no]) (n:=1) (is:=[0]) (g:=N2 0) (tt:=aV9)
  (te:=aH5 (E1 (aP3 (spV K bD5) [] E0 (E1 (D9 1) (E1 (tOp (rI0 λi j=>V.int (i+j)) (tC (.int 40)) (D9 0)) S6))) (E1 (D9 0) S6))) (f1 c) (P7 (A1 (A2 (i:=1) rfl) A7) (by omega) (by omega)) (by rw[O0];unfold PySem.sizeLine;omega) (λd hd=>by
   obtain ⟨i,hi⟩:=List.mem_iff_getElem?.mp hd;obtain ⟨rfl,hi⟩:=Q1 hi;have hi:i<m:=by omega
   exact⟨_,B9,aK7,N5 (A1 (E3 (A1 (A2 rfl) (A1 (K5 A6 (A2 rfl)) A7)) ⟨c,40+(i:Int),by omega,rfl,rfl⟩) (A1 (A2 rfl) A7))⟩)
 rw[Ac8,cO2]at c1;refine B1 (K2 (ds:=(srt c m).map tI) (bC3 (ts:=prs c m) (A1 (EF.e' c1) A7) (λt ht=>?_) ?_ (n8 c m) (bX8 c m)) ?_ (show 6<7 by decide))
 ·obtain ⟨k,_,rfl⟩:=Aa8.mp ht;simp
 ·simp[prs];omega
 show W K _ [.val (.int c),.val (.int (m:Int)),.own (nI [0,1,2]),.no,.no,.no,.own ((srt c m).map tI)] _
 have c2:=T7 (K:=K) (m:=false) (ρ:=[.val (.int c),.val (.int (m:Int)),.own (nI [0,1,2]),.no,.no,.no,.own ((srt c m).map tI)]) (n:=1) (is:=[]) (g:=N2 0) (tt:=aV9)
  (te:=tOp (rI0 λi j=>V.int (i+j)) (tC (.int 3)) (tOp (rIx K) (D9 0) (tC (.int 1)))) f2 (aX1 (G9 (i:=6) rfl)) (by rw[Aa3,hsl];unfold PySem.sizeLine;omega) (λd hd=>by
   obtain ⟨t,ht,rfl⟩:=Aa8.mp hd;obtain ⟨k,rfl⟩:=bI4 ht;exact⟨_,B9,aK7,K5 A6 (G5 (bS0 rfl) A6 rfl rfl)⟩)
 rw[cO6]at c2
 have:=cK9 (R:={nx:=λ_=>False,rl:=λe=>e=nI (nm c m)}) (aL0 (G9 (i:=2) rfl) (EF.e' c2) (E7 _) (E7 _) (by rw[D3,D3,Aa3,hsl];unfold PySem.sizeLine;simp;omega)) (by
  show _=nI (nm c m)
  unfold nm;rw[if_neg h,<- y2])
 exact this
end
end K18
namespace TT
def pfg (N:Nat->Int):Nat->Nat×Nat
 | 0=>(0,0)
 | j+1=>((pfg N j).1+(N j % ((j:Int)+1-(pfg N j).1)).toNat,(pfg N j).2+(N j / 64 % ((((pfg N j).1+(N j % ((j:Int)+1-(pfg N j).1)).toNat:Nat):Int)+1-(pfg N j).2)).toNat)
def rF (N:Nat->Int)(j:Nat):Nat:=(pfg N (j+1)).1
def rG (N:Nat->Int)(j:Nat):Nat:=(pfg N (j+1)).2
theorem cV3 (N:Nat->Int):∀j,pv (rF N) j=(pfg N j).1
 | 0=>rfl
 | _+1=>rfl
theorem cP4 (N:Nat->Int):∀j,pv (rG N) j=(pfg N j).2
 | 0=>rfl
 | _+1=>rfl
theorem bA1 (N:Nat->Int)(j:Nat):rF N j=(pfg N j).1+(N j % ((j:Int)+1-(pfg N j).1)).toNat:=rfl
theorem bR9 (N:Nat->Int)(j:Nat):rG N j=(pfg N j).2+(N j / 64 % ((rF N j:Int)+1-(pfg N j).2)).toNat:=rfl
theorem aU3 (N:Nat->Int):∀j,(pfg N j).1<=j/\(pfg N j).2<=(pfg N j).1/\(pfg N (j+1)).1<=j/\(pfg N (j+1)).2<=(pfg N (j+1)).1
 | j=>by
  have base:(pfg N j).1<=j/\(pfg N j).2<=(pfg N j).1:=by
   cases j with
   | zero=>exact⟨Aa7 _,Aa7 _⟩
   | succ i=>
    have:=aU3 N i
    exact⟨by omega,this.2.2.2⟩
  have h1:rF N j<=j:=by
   rw[bA1];have h:=Int.emod_lt_of_pos (N j) (b:=(j:Int)+1-(pfg N j).1) (by omega)
   have h':=Int.emod_nonneg (N j) (b:=(j:Int)+1-(pfg N j).1) (by omega)
   omega
  have h3:(pfg N j).1<=rF N j:=by rw[bA1];omega
  have h2:rG N j<=rF N j:=by
   rw[bR9];have h:=Int.emod_lt_of_pos (N j / 64) (b:=(rF N j:Int)+1-(pfg N j).2) (by omega)
   have h':=Int.emod_nonneg (N j / 64) (b:=(rF N j:Int)+1-(pfg N j).2) (by omega)
   omega
  exact⟨base.1,base.2,h1,h2⟩
theorem d8 (N:Nat->Int)(m:Nat):Rws (rF N) (rG N) m where
 f1:=λi _=>by rw[cV3,bA1];omega
 f2:=λi _=>(aU3 N i).2.2.1
 g1:=λi _=>by rw[cP4,bR9];omega
 g2:=λi _=>(aU3 N i).2.2.2
end TT
namespace K18
open PySem L2 LV PyProof.Rows
theorem sc__law_built:D7 ["_law_cell", "_law_cells", "_law_m", "_law_first", "_law_second", "_law_rest", "_law_i", "_law_number", "_law_low", "_law_turns", "_law_outs", "_law_names_here", "_law_called", "_law_triples", "_law_v"] ["_law_cell", "_law_cells", "_law_m"] (A9 N9):=⟨rfl,rfl,rfl,by decide +kernel,rfl,by decide +kernel,by decide +kernel⟩
def rr (c:Int):Nat->Int
 | 0=>c / 2
 | j+1=>if c % 2=1/\rr c j>0 then rr c j / 4096 else rr c j
def nu (c:Int)(cells:List Int)(j:Nat):Int:=if c % 2=1/\rr c j>0 then rr c j % 4096 else mx (cl cells j) j
def nf (c:Int)(m:Nat)(v:Nat):Nat:=(nm c m).getD v 0
def bT5 (ds:List PyData)(d:PyData):Prop:=∃(c:Int) (cells:List Int) (m:Nat) (dr tr:List (List Nat)),m<=7/\TT.Bt (TT.rF (nu c cells)) (TT.rG (nu c cells)) m (nf c m) dr tr/\ds=[.int c,lI cells,.int (m:Int)]/\d=.tuple [.tuple (dr.map tN),.tuple (tr.map tN)]
def rb (c:Int)(cells:List Int)(m:Nat)(f g:List Int)(r:Int)(x6 x7 x8:Sl):List Sl:=[.val (.int c),.val (lI cells),.val (.int (m:Int)),.own (f.map PyData.int),.own (g.map PyData.int),.val (.int r),x6,x7,x8,.no,.no,.no,.no,.no,.no]
theorem cI1 {c:Int}{cells:List Int}{m:Nat}{f g:List Int}{r:Int}{x6 x7 x8:Sl}(h6:x6.nb=true)(h7:x7.nb=true)(h8:x8.nb=true):S7 (rb c cells m f g r x6 x7 x8)=true:=by
 unfold rb;simp only[Z9,h6,h7,h8,Bool.true_and];rfl
theorem aI1 (F:Nat->Nat)(j:Nat):fl F (j+1)=fl F j++[(F j:Int)]:=by simp[fl,List.range_succ]
def rc (c:Int)(cells:List Int)(m:Nat)(x3 x4 r:PyData)(x6 x7 x8:Sl)(tD oD:PyData)(nmD L T:List PyData)(x14:Sl):List Sl:=[.val (.int c),.val (lI cells),.val (.int (m:Int)),.val x3,.val x4,.val r,x6,x7,x8,.val tD,.val oD,.own nmD,.own L,.own T,x14]
theorem cG9 {c:Int}{cells:List Int}{m:Nat}{x3 x4 r:PyData}{x6 x7 x8:Sl}{tD oD:PyData}{nmD L T:List PyData}{x14:Sl}(h6:x6.nb=true)(h7:x7.nb=true)(h8:x8.nb=true)(h14:x14.nb=true):S7 (rc c cells m x3 x4 r x6 x7 x8 tD oD nmD L T x14)=true:=by
 unfold rc;simp only[Z9,h6,h7,h8,h14,Bool.true_and];rfl
def f3 (f:Nat->Nat):PyData->Option PyData
 | .int k=>some (.int (f k.toNat:Nat))
 | _=>none
theorem bR4 (f:Nat->Nat)(l:List Nat):(nI l).filterMap (f3 f)=nI (l.map f):=by
 unfold nI;rw[List.filterMap_map,Ae2,<- List.filterMap_eq_map];exact U0 λx _=>rfl
theorem aM6 {α:Type}(a:α):∀n:Nat,(List.replicate n [a]).flatten=List.replicate n a
 | 0=>rfl
 | n+1=>by rw[List.replicate_succ,List.flatten_cons,aM6 a n];rfl
theorem EF.to {K:PySem.W.Frag}{t:TE}{ρ:List Sl}{ds es:List PyData}(h:LV.EF K t ρ ds)(e:ds=es):LV.EF K t ρ es:=e▸h
theorem cM3 {F G:Nat->Nat}{m v:Nat}(R:TT.Rws F G m)(hv:v<m+3):(TT.gst F G m).row v≠[]:=by
 have GI:=TT.O8 R m (Aa7 _)
 obtain ⟨p,hp⟩:=GI.inv.pe;by_cases h0:v=0
 ·subst h0;rw[TT.aB6];simp
 ·by_cases h1:v=1
  ·subst h1;rw[TT.aL2];simp
  ·by_cases h2:v=2
   ·subst h2;rw[TT.aD5,hp];simp
   ·rw[TT.N6 (by omega) (by rw[GI.k];exact hv)];simp
theorem bN2 {c:Int}{m p:Nat}(h:p<m+3):atI (nI (nm c m)) (p:Int)=some (.int (nf c m p:Nat)):=by
 refine K0 p rfl ?_;unfold nI nf;rw[Aa9,Ac0,Aa2 (by rw[cN7];exact h)];rfl
theorem bE0 {L:List PyData}{f:Nat->Nat}{n j:Nat}{g:Nat->PyData}{x:PyData}(hj:f j<L.length)(inj:∀v,v<j->f v≠f j)(h:∀v,v<j->L[f v]? = some (g v))(hx:x=g j):∀v,v<j+1->(L.set (f j) x)[f v]? = some (g v):=λv hv=>by
 by_cases e:v=j
 ·subst e;rw[List.getElem?_set_self hj,hx]
 ·rw[Ad0 (λz=>inj v (by omega) z.symm)];exact h v (by omega)
theorem aL8 {x:PyData}(hx:imm x=true):∀{L:List PyData} (n:Nat),J8 L=true->J8 (L.set n x)=true
 | [],_,h=>h
 | a::L,0,h=>by simp[J8]at h ⊢;exact⟨hx,h.2⟩
 | a::L,n+1,h=>by simp[J8]at h ⊢;exact⟨h.1,aL8 hx n h.2⟩
theorem bG9 (l:List Nat):imm (tN l)=true:=by unfold tN;simp[imm,E7]
theorem nd3:(["_law_place", "_law_names_here"]:List Str).Nodup:=by decide +kernel
section
variable {P:Program}{w:World}{K:PySem.W.Frag}{mg:Str->Option Value}{base:Heap}{a:Ad}
theorem bW2 (T:Tx K mg a):G3 P w K mg base CX0 3 a.e7 a.Z7 ["_law_cell", "_law_cells", "_law_m"] (spV K bT5):=by
 have G__law_mixed:G3 P w K mg base CX0 1 _ _ _ _:=aJ8 T
 have G__law_cell_at:G3 P w K mg base CX0 1 _ _ _ _:=bL9 T
 have G__law_grown:G3 P w K mg base CX0 1 _ _ _ _:=bZ2 T
 have G__law_names:G3 P w K mg base CX0 2 _ _ _ _:=bS8 T
 have G__law_begun:G3 P w K mg base CX0 1 _ _ _ _:=bW4 T
 refine T.aB1.ok sc__law_built (X3 λds d ⟨_,_,_,_,_,_,_,e,_⟩=>by rw[e];rfl) (λcdv A outer s H vs Q E hr h=>?_)
 obtain ⟨ds,S,d,hS,r,⟨c,cells,m,dr,tr,hm,B,rfl,rfl⟩,q⟩:=h;refine⟨_,(A5 (B6 (i:=3) sc__law_built.nd rfl (Or.inl rfl) (C6 A3))
   (A5 (B6 (i:=4) sc__law_built.nd rfl (Or.inl rfl) (C6 A3))
   (A5 (B6 (i:=5) sc__law_built.nd rfl (Or.inl rfl) (B2 u6 (pv 0) A4))
   (A5 (L7 PassesOwn.never rfl (G4 rfl T.G6 (A0 (pv 2) A3)) (B4 (i:=6) sc__law_built.nd rfl (Or.inl rfl)) (A5 (B6 (i:=7) sc__law_built.nd rfl (Or.inl rfl) (C4 G__law_mixed (hr.mono (by decide)) rfl T.U7 T.Q9.kp T.U8 .nil J5 (A0 (C4 G__law_cell_at (hr.mono (by decide)) rfl T.Q8 T.N7.kp T.R4 .nil J5 (A0 (pv 1) (A0 (pv 6) A3))) (A0 (pv 6) A3))))
   (A5 (R7 (PW.pt (y6 (C1 aS2 (B2 U1 (pv 0) A4) A4 (E2 _)) (aC9 (C1 aG6 (pv 5) A4 (E2 _))))) (A5 (B6 (i:=7) sc__law_built.nd rfl (Or.inl rfl) (B2 U1 (pv 5) A4))
   (A8 (B6 (i:=5) sc__law_built.nd rfl (Or.inl rfl) (B2 u6 (pv 5) A4)))) K4)
   (A5 (B6 (i:=8) sc__law_built.nd rfl (Or.inl rfl) (bB1 (C1 aG6 (pv 6) A4 (E2 _)) (B7 C2 (pv 3) (aL1 aA5 A4) (λ_ _=>rfl)) A4))
   (A5 (H9 (N4 Ab1 PySem.F.slot_list_append PySem.F.type_list_append D8 (pv 3) (A0 (B2 D1 (pv 8) (B2 U1 (pv 7) (B2 U3 (B2 D1 (pv 6) A4) (pv 8)))) A3)))
   (A5 (B6 (i:=8) sc__law_built.nd rfl (Or.inl rfl) (bB1 (C1 aG6 (pv 6) A4 (E2 _)) (B7 C2 (pv 4) (aL1 aA5 A4) (λ_ _=>rfl)) A4))
   (A8 (H9 (N4 Ab1 PySem.F.slot_list_append PySem.F.type_list_append D8 (pv 4) (A0 (B2 D1 (pv 8) (B2 U1 (B2 u6 (pv 7) A4) (B2 U3 (B2 D1 (B7 C2 (pv 3) (aL1 aA5 A4) (λ_ _=>rfl)) A4) (pv 8)))) A3))))))))))
   (A5 (aB0 (C4 G__law_grown (hr.mono (by decide)) rfl T.aX5 T.aC4.kp T.aY4 .nil J5 (A0 (pv 3) (A0 (pv 4) A3))) (p8 (n:=2) rfl (E8 (B4 (i:=9) sc__law_built.nd rfl (Or.inl rfl)) (E8 (B4 (i:=10) sc__law_built.nd rfl (Or.inl rfl)) W9))))
   (A5 (B6 (i:=11) sc__law_built.nd rfl (Or.inr rfl) (C4 G__law_names (hr.mono (by decide)) rfl T.aT2 T.aC3.kp T.aZ0 .nil J5 (A0 (pv 0) (A0 (pv 2) A3))))
   (A5 (B6 (i:=12) sc__law_built.nd rfl (Or.inl rfl) (B2 bY4 (C6 (A0 (G0 A3) A3)) (B2 D1 (pv 2) A4)))
   (A5 (B6 (i:=13) sc__law_built.nd rfl (Or.inl rfl) (B2 bY4 (C6 (A0 (G0 A3) A3)) (pv 2)))
   (A5 (L7 PassesOwn.never rfl (G4 rfl T.G6 (A0 (B2 D1 (pv 2) A4) A3)) (B4 (i:=14) sc__law_built.nd rfl (Or.inl rfl)) (A8 (aB0 (C4 G__law_begun (hr.mono (by decide)) rfl T.aT1 T.aE3.kp T.aT9 .nil J5 (A0 (j9 (T:=["_law_place"]) (N':=["_law_place", "_law_names_here"]) (is:=[11]) rfl (.of rfl rfl rfl (by exact⟨rfl,trivial⟩) rfl rfl rfl (by first | exact⟨⟨_,rfl,.inl rfl,.inl rfl⟩,trivial⟩ | exact⟨⟨_,rfl,.inr rfl,.inl rfl⟩,trivial⟩)) (aJ2 (B7 C2 (pv 9) (pv 14) (λ_ _=>rfl))) (S0 (by decide)) λ_ _ _ _=>⟨(B4 (i:=0) nd3 rfl (Or.inl rfl)),V5,(B7 (ixK K) (pv 1) (pv 0) (λ_ _=>rfl))⟩) A3)) (bF9 (pv 12) (B7 C2 (pv 11) (pv 14) (λ_ _=>rfl)) aL9))))
   (A5 (L7 PassesOwn.never rfl (G4 rfl T.G6 (A0 (pv 2) A3)) (B4 (i:=14) sc__law_built.nd rfl (Or.inl rfl)) (A8 (aB0 (M0 P5 (by rfl) T.M6 boot_tuple (A0 (j9 (T:=["_law_place"]) (N':=["_law_place", "_law_names_here"]) (is:=[11]) rfl (.of rfl rfl rfl (by exact⟨rfl,trivial⟩) rfl rfl rfl (by first | exact⟨⟨_,rfl,.inl rfl,.inl rfl⟩,trivial⟩ | exact⟨⟨_,rfl,.inr rfl,.inl rfl⟩,trivial⟩)) (aJ2 (B7 C2 (pv 10) (pv 14) (λ_ _=>rfl))) (S0 (by decide)) λ_ _ _ _=>⟨(B4 (i:=0) nd3 rfl (Or.inl rfl)),V5,(B7 (ixK K) (pv 1) (pv 0) (λ_ _=>rfl))⟩) A3)) (bF9 (pv 13) (B2 U3 (B7 C2 (pv 11) (B2 D1 A4 (pv 14)) (λ_ _=>rfl)) A4) aL9))))
   (A8 (C9 (G0 (A0 (M0 P5 (by rfl) T.M6 boot_tuple (A0 (pv 12) A3)) (A0 (M0 P5 (by rfl) T.M6 boot_tuple (A0 (pv 13) A3)) A3))))))))))))))),M1 hS r ?_ q⟩
 generalize hN:nu c cells=N at B;refine B1 (K2 (J4 A7) ?_ (show 3<15 by decide))
 refine B1 (K2 (J4 A7) ?_ (show 4<15 by decide))
 refine B1 (L8 (d:=.int (c / 2)) (e_i (A2 rfl) A6 ⟨by decide,by decide⟩) ?_)
 have r0:rr c 0=c / 2:=rfl
 rw[<- r0];refine B1 (P4 (P7 (A1 (A2 rfl) A7) ?_ ?_) (λj ρ=>∃x6 x7 x8,(x6.nb=true/\x7.nb=true/\x8.nb=true)/\ρ=rb c cells m (fl (TT.rF N) j) (fl (TT.rG N) j) (rr c j) x6 x7 x8) ⟨.no,.no,.no,⟨rfl,rfl,rfl⟩,rfl⟩ ?_ ?_)
 ·omega
 ·omega
 ·rintro j d _ hd ⟨x6,x7,x8,⟨b6,b7,b8⟩,rfl⟩;obtain ⟨rfl,hj⟩:=Q1 hd;have hj:j<m:=by omega
  have PF:=TT.aU3 N j
  have nuj:N j=nu c cells j:=by rw[hN]
  have nn:0<=N j:=by
   rw[nuj];unfold nu;split
   ·exact Int.emod_nonneg _ (by decide)
   ·exact(cX0 _ _).1
  refine⟨_,B9,?_⟩;refine B1 (L8 (d:=.int (mx (cl cells j) j)) (E3 (A1 (E3 (A1 (A2 rfl) (A1 (A2 rfl) A7)) ⟨cells,j,by omega,rfl,rfl⟩) (A1 (A2 rfl) A7)) ⟨_,j,by omega,rfl,rfl⟩) ?_)
  show W K _ (rb c cells m (fl (TT.rF N) j) (fl (TT.rG N) j) (rr c j) (.val (.int (j:Int))) (.val (.int (mx (cl cells j) j))) x8) _
  refine B1 (cF8 (rb c cells m (fl (TT.rF N) j) (fl (TT.rG N) j) (rr c (j+1)) (.val (.int (j:Int))) (.val (.int (N j))) x8) (aM9 (C7 (aR9 (e_i (A2 rfl) A6 (by decide)) A6)) λ_=>(C7 (aB4 (A2 rfl) A6))) (λh=>B1 (L8 (d:=.int (rr c j % 4096)) (e_i (A2 rfl) A6 (by decide)) (L8 (d:=.int (rr c j / 4096)) (e_i (A2 rfl) A6 ⟨by decide,by decide⟩) ?_))) (λh=>N1 ?_) ?_)
  ·have h:c % 2=1/\rr c j>0:=by simpa using h
   have e1:rr c (j+1)=rr c j / 4096:=by show(if c % 2=1/\rr c j>0 then rr c j / 4096 else rr c j)=_;rw[if_pos h]
   have e2:N j=rr c j % 4096:=by rw[nuj];unfold nu;rw[if_pos h]
   rw[e1,e2];rfl
  ·have h:¬(c % 2=1/\rr c j>0):=by simpa using h
   have e1:rr c (j+1)=rr c j:=by show(if c % 2=1/\rr c j>0 then rr c j / 4096 else rr c j)=_;rw[if_neg h]
   have e2:N j=mx (cl cells j) j:=by rw[nuj];unfold nu;rw[if_neg h]
   rw[e1,e2]
  have low:∀(X:Nat->Nat) (p:Nat),p=TT.pv X j->((j:Int)>0->atI ((fl X j).map PyData.int) (-1)=some (.int (p:Int))):=λX p hp h=>by
   obtain ⟨i,rfl⟩:∃i,j=i+1:=⟨j-1,by omega⟩
   rw[aI1,Ad2,hp];exact aI4
  refine B1 (L8 (d:=.int ((TT.pfg N j).1:Nat)) (cQ6 (C7 (aB4 (A2 rfl) A6)) (λh=>LV.E.imm (G5 (G9 rfl) (aK9 A6) rfl (low (TT.rF N) _ (TT.cV3 N j).symm (of_decide_eq_true h)))) (λh=>?_)) ?_)
  ·have h:¬(j:Int)>0:=of_decide_eq_false h
   have:j=0:=by omega
   subst this;exact A6
  show W K _ (rb c cells m (fl (TT.rF N) j) (fl (TT.rG N) j) (rr c (j+1)) (.val (.int (j:Int))) (.val (.int (N j))) (.val (.int ((TT.pfg N j).1:Nat)))) _
  have eF:((TT.pfg N j).1:Int)+N j % ((j:Int)+1-((TT.pfg N j).1:Int))=(TT.rF N j:Int):=by
   rw[TT.bA1]
   have:=Int.emod_nonneg (N j) (b:=(j:Int)+1-(TT.pfg N j).1) (by omega)
   omega
  refine B1 (R5 rfl (K5 (A2 rfl) (e_i (A2 rfl) (K5 (K5 (A2 rfl) A6) (A2 rfl)) (by omega))) (by rw[Aa3];simp[fl];unfold PySem.sizeLine;omega) ?_ (cI1 rfl rfl rfl))
  rw[eF];have eF2:(fl (TT.rF N) j).map PyData.int++[PyData.int (TT.rF N j:Int)]=(fl (TT.rF N) (j+1)).map PyData.int:=by rw[aI1];simp
  rw[eF2];show W K _ (rb c cells m (fl (TT.rF N) (j+1)) (fl (TT.rG N) j) (rr c (j+1)) (.val (.int (j:Int))) (.val (.int (N j))) (.val (.int ((TT.pfg N j).1:Nat)))) _;refine B1 (L8 (d:=.int ((TT.pfg N j).2:Nat)) (cQ6 (C7 (aB4 (A2 rfl) A6)) (λh=>LV.E.imm (G5 (G9 rfl) (aK9 A6) rfl (low (TT.rG N) _ (TT.cP4 N j).symm (of_decide_eq_true h)))) (λh=>?_)) ?_)
  ·have h:¬(j:Int)>0:=of_decide_eq_false h
   have:j=0:=by omega
   subst this;exact A6
  show W K _ (rb c cells m (fl (TT.rF N) (j+1)) (fl (TT.rG N) j) (rr c (j+1)) (.val (.int (j:Int))) (.val (.int (N j))) (.val (.int ((TT.pfg N j).2:Nat)))) _
  have rFj:TT.rF N j=(TT.pfg N (j+1)).1:=rfl
  have rFle:(TT.pfg N j).1<=TT.rF N j:=by rw[TT.bA1];omega
  have eG:((TT.pfg N j).2:Int)+N j / 64 % ((TT.rF N j:Int)+1-((TT.pfg N j).2:Int))=(TT.rG N j:Int):=by
   rw[TT.bR9]
   have:=Int.emod_nonneg (N j / 64) (b:=(TT.rF N j:Int)+1-(TT.pfg N j).2) (by omega)
   omega
  have hlF:atI ((fl (TT.rF N) (j+1)).map PyData.int) (-1)=some (.int (TT.rF N j:Int)):=by rw[aI1,Ad2];exact aI4
  refine R5 rfl (K5 (A2 rfl) (e_i (e_i (A2 rfl) A6 ⟨by decide,by decide⟩) (K5 (K5 (G5 (G9 rfl) (aK9 A6) rfl hlF) A6) (A2 rfl)) (by omega))) (by rw[Aa3];simp[fl];unfold PySem.sizeLine;omega) ?_ (cI1 rfl rfl rfl)
  rw[eG];have eG2:(fl (TT.rG N) j).map PyData.int++[PyData.int (TT.rG N j:Int)]=(fl (TT.rG N) (j+1)).map PyData.int:=by rw[aI1];simp
  rw[eG2];exact⟨.val (.int (j:Int)),.val (.int (N j)),.val (.int ((TT.pfg N j).2:Nat)),⟨rfl,rfl,rfl⟩,rfl⟩
 rintro _ ⟨x6,x7,x8,⟨b6,b7,b8⟩,rfl⟩;rw[O0,Ac8];refine bY9 (i:=3) rfl (bY9 (i:=4) rfl ?_);refine B1 (aZ4 (m:=true) (E3 (A1 (A2 rfl) (A1 (A2 rfl) A7)) ⟨TT.rF N,TT.rG N,m,TT.d8 N m,by omega,rfl,rfl⟩) (aG9 (K3 B9 (K3 B9 r9))) ?_)
 refine B1 (K2 (bL2 (A1 (A2 rfl) (A1 (A2 rfl) A7)) ⟨c,m,by omega,rfl,rfl⟩) ?_ (show 11<15 by decide))
 have ND:=B.N
 have LT:=(TT.O8 (TT.d8 N m) m (Aa7 _)).inv.lt
 have LR:=TT.aI3 (TT.O8 (TT.d8 N m) m (Aa7 _)).inv
 rw[(TT.O8 (TT.d8 N m) m (Aa7 _)).k]at LT LR;refine B1 (K2 (ds:=List.replicate (m+3) (.tuple [])) ?_ ?_ (show 12<15 by decide))
 ·refine EF.to (bZ0 (k:=(m:Int)+3) (ds:=[.tuple []]) (J4 (A1 (N5 A7) A7)) (K5 (A2 rfl) A6) rfl (by omega) (by omega) ?_) ?_
  ·show 1*((m:Int)+3).toNat<=_;unfold PySem.sizeLine;omega
  ·have e:((m:Int)+3).toNat=m+3:=by omega
   rw[aM6,e]
 refine B1 (K2 (ds:=List.replicate m (.tuple [])) ?_ ?_ (show 13<15 by decide))
 ·refine EF.to (bZ0 (k:=(m:Int)) (ds:=[.tuple []]) (J4 (A1 (N5 A7) A7)) (A2 rfl) rfl (by omega) (by omega) ?_) ?_
  ·show 1*(m:Int).toNat<=_;unfold PySem.sizeLine;omega
  ·rw[aM6,Ac8]
 generalize htD:(PyData.list ((List.range (m+3)).map λv=>lN ((TT.gst (TT.rF N) (TT.rG N) m).row v)))=tD
 generalize hoD:(PyData.list ((List.range m).map λv=>lN [(TT.gst (TT.rF N) (TT.rG N) m).o0 (v+3),(TT.gst (TT.rF N) (TT.rG N) m).o1 (v+3),(TT.gst (TT.rF N) (TT.rG N) m).o2 (v+3)]))=oD
 show W K _ (rc c cells m (lI (fl (TT.rF N) m)) (lI (fl (TT.rG N) m)) (.int (rr c m)) x6 x7 x8 tD oD (nI (nm c m)) (List.replicate (m+3) (.tuple [])) (List.replicate m (.tuple [])) .no) _
 have sqt:sq tD=some ((List.range (m+3)).map λv=>lN ((TT.gst (TT.rF N) (TT.rG N) m).row v)):=by rw[<- htD];rfl
 have sqo:sq oD=some ((List.range m).map λv=>lN [(TT.gst (TT.rF N) (TT.rG N) m).o0 (v+3),(TT.gst (TT.rF N) (TT.rG N) m).o1 (v+3),(TT.gst (TT.rF N) (TT.rG N) m).o2 (v+3)]):=by rw[<- hoD];rfl
 have imr:∀n:Nat,J8 (List.replicate n (PyData.tuple []))=true:=λn=>by
  induction n with
  | zero=>rfl
  | succ n ih=>rw[List.replicate_succ];simp[J8,ih];rfl
 refine B1 (P4 (P7 (A1 (K5 (A2 rfl) A6) A7) ?_ ?_) (λj ρ=>∃x14 L,x14.nb=true/\L.length=m+3/\J8 L=true/\(∀v,v<j->L[nf c m v]? = some (tN (TT.U6 (((TT.gst (TT.rF N) (TT.rG N) m).row v).map (nf c m)))))/\ρ=rc c cells m (lI (fl (TT.rF N) m)) (lI (fl (TT.rG N) m)) (.int (rr c m)) x6 x7 x8 tD oD (nI (nm c m)) L (List.replicate m (.tuple [])) x14) ⟨.no,_,rfl,by simp,imr _,λv hv=>by omega,rfl⟩ ?_ ?_)
 ·omega
 ·omega
 ·rintro j d _ hd ⟨x14,L,b14,hL,hiL,hv,rfl⟩;obtain ⟨rfl,hj⟩:=Q1 hd;have hj:j<m+3:=by omega
  refine⟨_,B9,?_⟩;show W K _ (rc c cells m (lI (fl (TT.rF N) m)) (lI (fl (TT.rG N) m)) (.int (rr c m)) x6 x7 x8 tD oD (nI (nm c m)) L (List.replicate m (.tuple [])) (.val (.int (j:Int)))) _;have cm:=T7 (K:=K) (m:=true) (ρ:=rc c cells m (lI (fl (TT.rF N) m)) (lI (fl (TT.rG N) m)) (.int (rr c m)) x6 x7 x8 tD oD (nI (nm c m)) L (List.replicate m (.tuple [])) (.val (.int (j:Int)))) (n:=1) (is:=[11]) (g:=N2 0) (tt:=aV9) (te:=tOp (rIx K) (D9 1) (D9 0)) (f3 (nf c m)) (aX1 (ds:=nI ((TT.gst (TT.rF N) (TT.rG N) m).row j)) (G5 (A2 (i:=9) rfl) (A2 (i:=14) rfl) sqt (aD0 hj))) (by rw[D3];have:=LR j;unfold PySem.sizeLine;omega) (λd hd=>by
   obtain ⟨p,hp,rfl⟩:=Aa8.mp hd;exact⟨_,B9,aK7,LV.E.imm (d:=.int (nf c m p:Nat)) (G5 (bS0 rfl) (A2 rfl) rfl (bN2 (LT j p hp)))⟩)
  rw[bR4]at cm;refine bU2 (nf c m j) (E3 (A1 (EF.e' cm) A7) ⟨_,?_,?_,rfl,rfl⟩) rfl (G5 (G9 rfl) (A2 rfl) rfl (bN2 hj)) rfl ?_ ⟨.val (.int (j:Int)),L.set (nf c m j) (tN (TT.U6 (((TT.gst (TT.rF N) (TT.rG N) m).row j).map (nf c m)))),rfl,by rw[List.length_set];exact hL,aL8 (bG9 _) _ hiL,bE0 (n:=0) (by rw[hL];exact ND.lt j hj) (λv hv e=>by have:=ND.inj v j (by omega) hj e;omega) hv rfl,rfl⟩ (cG9 b6 b7 b8 rfl)
  ·intro e;exact cM3 (TT.d8 N m) hj (List.map_eq_nil_iff.mp e)
  ·rw[Aa3];have:=LR j;omega
  ·rw[hL];exact ND.lt j hj
 rintro _ ⟨x14,L,b14,hL,hiL,hv,rfl⟩;have e3:(T3 0 ((m:Int)+3).toNat).length=m+3:=by rw[O0];omega
 rw[e3]at hv;refine B1 (P4 (P7 (A1 (A2 rfl) A7) ?_ ?_) (λj ρ=>∃x14 T,x14.nb=true/\T.length=m/\J8 T=true/\(∀v,v<j->T[nf c m (v+3)-3]? = some (tN [nf c m ((TT.gst (TT.rF N) (TT.rG N) m).o0 (v+3)),nf c m ((TT.gst (TT.rF N) (TT.rG N) m).o1 (v+3)),nf c m ((TT.gst (TT.rF N) (TT.rG N) m).o2 (v+3))]))/\ρ=rc c cells m (lI (fl (TT.rF N) m)) (lI (fl (TT.rG N) m)) (.int (rr c m)) x6 x7 x8 tD oD (nI (nm c m)) L T x14) ⟨x14,_,b14,by simp,imr _,λv hv=>by omega,rfl⟩ ?_ ?_)
 ·omega
 ·omega
 ·rintro j d _ hd ⟨y14,T',c14,hT,hiT,hvT,rfl⟩;obtain ⟨rfl,hj⟩:=Q1 hd;have hj:j<m:=by omega
  refine⟨_,B9,?_⟩;have rI:(TT.gst (TT.rF N) (TT.rG N) m).row (j+3)=_:=TT.N6 (by omega) (by rw[(TT.O8 (TT.d8 N m) m (Aa7 _)).k];omega)
  have l0:(TT.gst (TT.rF N) (TT.rG N) m).o0 (j+3)<m+3:=LT (j+3) _ (by rw[rI];simp)
  have l1:(TT.gst (TT.rF N) (TT.rG N) m).o1 (j+3)<m+3:=LT (j+3) _ (by rw[rI];simp)
  have l2:(TT.gst (TT.rF N) (TT.rG N) m).o2 (j+3)<m+3:=LT (j+3) _ (by rw[rI];simp)
  have ge3:3<=nf c m (j+3):=by
   have:=ND.lo (by omega) (q:=j+3) (by omega)
   omega
  have lt3:nf c m (j+3)<m+3:=ND.lt (j+3) (by omega)
  have hat:atI (nI (nm c m)) (3+(j:Int))=some (.int (nf c m (j+3):Nat)):=by
   rw[show(3:Int)+(j:Int)=((j+3:Nat):Int) by omega];exact bN2 (by omega)
  show W K _ (rc c cells m (lI (fl (TT.rF N) m)) (lI (fl (TT.rG N) m)) (.int (rr c m)) x6 x7 x8 tD oD (nI (nm c m)) L T' (.val (.int (j:Int)))) _
  have cm:=T7 (K:=K) (m:=true) (ρ:=rc c cells m (lI (fl (TT.rF N) m)) (lI (fl (TT.rG N) m)) (.int (rr c m)) x6 x7 x8 tD oD (nI (nm c m)) L T' (.val (.int (j:Int)))) (n:=1) (is:=[11]) (g:=N2 0) (tt:=aV9) (te:=tOp (rIx K) (D9 1) (D9 0)) (f3 (nf c m)) (aX1 (ds:=nI [(TT.gst (TT.rF N) (TT.rG N) m).o0 (j+3),(TT.gst (TT.rF N) (TT.rG N) m).o1 (j+3),(TT.gst (TT.rF N) (TT.rG N) m).o2 (j+3)]) (G5 (A2 (i:=10) rfl) (A2 (i:=14) rfl) sqo (aD0 hj))) (by rw[D3];show 3<_;unfold PySem.sizeLine;omega) (λd hd=>by
   obtain ⟨p,hp,rfl⟩:=Aa8.mp hd;have hp:p<m+3:=by
    rcases Aa1.mp hp with rfl | hp
    ·exact l0
    ·rcases Aa1.mp hp with rfl | hp
     ·exact l1
     ·rw[Ad8.mp hp];exact l2
   exact⟨_,B9,aK7,LV.E.imm (d:=.int (nf c m p:Nat)) (G5 (bS0 rfl) (A2 rfl) rfl (bN2 hp))⟩)
  rw[bR4]at cm;refine bU2 (nf c m (j+3)-3) (U9 (A1 (EF.e' cm) A7) (E7 _)) rfl (K5 (G5 (G9 rfl) (K5 A6 (A2 rfl)) rfl hat) A6) (by omega) ?_ ⟨.val (.int (j:Int)),T'.set (nf c m (j+3)-3) (tN [nf c m ((TT.gst (TT.rF N) (TT.rG N) m).o0 (j+3)),nf c m ((TT.gst (TT.rF N) (TT.rG N) m).o1 (j+3)),nf c m ((TT.gst (TT.rF N) (TT.rG N) m).o2 (j+3))]),rfl,by rw[List.length_set];exact hT,aL8 (bG9 _) _ hiT,bE0 (n:=0) (f:=λv=>nf c m (v+3)-3) (g:=λv=>tN [nf c m ((TT.gst (TT.rF N) (TT.rG N) m).o0 (v+3)),nf c m ((TT.gst (TT.rF N) (TT.rG N) m).o1 (v+3)),nf c m ((TT.gst (TT.rF N) (TT.rG N) m).o2 (v+3))]) (by rw[hT];show nf c m (j+3)-3<m;omega) (λv hv e=>by
   have e:nf c m (v+3)-3=nf c m (j+3)-3:=e
   have g3:=ND.lo (by omega) (q:=v+3) (by omega)
   have:=ND.inj (v+3) (j+3) (by omega) (by omega) (by omega)
   omega) hvT rfl,rfl⟩ (cG9 b6 b7 b8 rfl)
  rw[hT];omega
 rintro _ ⟨y14,T',c14,hT,hiT,hvT,rfl⟩;rw[O0,Ac8]at hvT;refine L9 (N5 (A1 (U9 (A1 (G9 rfl) A7) hiL) (A1 (U9 (A1 (G9 rfl) A7) hiT) A7))) ?_;have eL:L=dr.map tN:=by
  refine List.ext_getElem? λz=>?_
  by_cases hz:z<m+3
  ·obtain ⟨v,hv1,rfl⟩:=ND.surj z hz;rw[hv v hv1,Aa9,B.dr v hv1];rfl
  ·rw[Ad6 (by omega),Ad6 (by rw[Aa3,B.dl];omega)]
 have eT:T'=tr.map tN:=by
  refine List.ext_getElem? λz=>?_
  by_cases hz:z<m
  ·obtain ⟨v,hv1,hv2⟩:=ND.surj (z+3) (by omega)
   have h3:3<=v:=by
    have:=ND.lo (by omega) hv1
    omega
   obtain ⟨u,rfl⟩:∃u,v=u+3:=⟨v-3,by omega⟩
   have hzz:z=nf c m (u+3)-3:=by omega
   rw[hzz,hvT u (by omega),Aa9,B.tr (u+3) h3 hv1];rfl
  ·rw[Ad6 (by omega),Ad6 (by rw[Aa3,B.tl];omega)]
 rw[eL,eT]
end
theorem cS1 {F G:Nat->Nat}{m:Nat}{f:Nat->Nat}(R:TT.Rws F G m)(N:TT.Nm (m+3) f):∃dr tr,TT.Bt F G m f dr tr:=by
 have ex:∀q,∃v,q<m+3->v<m+3/\f v=q:=λq=>by
  by_cases h:q<m+3
  ·obtain ⟨v,h1,h2⟩:=N.surj q h;exact⟨v,λ_=>⟨h1,h2⟩⟩
  ·exact⟨0,λz=>absurd z h⟩
 have ⟨g,hg⟩:∃g:Nat->Nat,∀q,q<m+3->g q<m+3/\f (g q)=q:=⟨λq=>Classical.choose (ex q),λq h=>Classical.choose_spec (ex q) h⟩
 have gf:∀v,v<m+3->g (f v)=v:=λv hv=>N.inj _ _ (hg _ (N.lt v hv)).1 hv (hg _ (N.lt v hv)).2
 refine⟨(List.range (m+3)).map λq=>TT.U6 (((TT.gst F G m).row (g q)).map f),(List.range m).map λq=>[f ((TT.gst F G m).o0 (g (q+3))),f ((TT.gst F G m).o1 (g (q+3))),f ((TT.gst F G m).o2 (g (q+3)))],R,N,by simp,λv hv=>?_,by simp,λv h3 hv=>?_⟩
 ·rw[S3 (N.lt v hv),gf v hv]
 ·have h:=N.lo (by omega) hv
  have hl:=N.lt v hv
  rw[S3 (by omega)]
  have e:f v-3+3=f v:=by omega
  rw[e,gf v hv]
end K18
namespace LV
open PySem PySem.Spec PyProof.Rows L2
theorem aO0 (l:Addr)(items:Array Value)(n:Nat)(dd:Option Addr)(sl:Array (Option Value))(x:Value)(e:Value->Bool)(j:Nat)(hj:j<items.size)(he:e items[j]=true)
  (hb:∀(m:Nat) (hm:m<items.size),m<j->e items[m]=false) :
  Meets (Builtin.«tuple.index» {pos:=[.ref l,x]}) λA R s=>
   s.heap.get? l=some {cls:=.type "tuple",dict:=dd,data:=.seq items n,slots:=sl}/\(∀y∈items,SeqAt.EqAt A.in1 s y x (e y)) /\
    R (.ok (.ret (.int (j:Int) s.toks))) {s with toks:=s.toks+1}:=by
 intro prog w A R s ⟨ho,hq,hr⟩;unfold Builtin.«tuple.index»;have e0:selfAndSome "tuple.index" "index" 1 3 {pos:=[.ref l,x]}=pure (.ref l,[x]):=by rfl
 rw[e0];refine wpAny_bind (wpAny_pure ?_);have ht:s.heap.get? l=some {cls:=.type "tuple",dict:=dd,data:=.seq items n,slots:=sl}:=ho;show wpAny _ _ (Builtin.Tuple.tupleItemsOf (.ref l) >>= _) _ _ s;refine wpAny_bind (wpAny_tupleItemsOf ht rfl ?_);refine wpAny_bind (wpAny_pure ?_);refine wpAny_bind (wpAny_pure ?_);refine wpAny_bind ?_;rw[Std.Legacy.Range.forIn_eq_forIn_range'];have hs:([0:min items.size items.size]:Std.Legacy.Range).size=items.size:=by simp[Std.Legacy.Range.size]
 rw[hs];refine wpAny_forIn_list _ (λrest b s'=>(∃i,i<=j/\rest=List.range' i (items.size-i) 1)/\b=(none,())/\s'=s) _ ?_ ?_ _ _ ⟨⟨0,Nat.zero_le _,rfl⟩,rfl,rfl⟩
 ·rintro i rest b s' ⟨⟨i',hi,hrest⟩,rfl,rfl⟩;have hlt:i'<items.size:=by omega
  obtain ⟨k,hk⟩:∃k,items.size-i'=k+1:=⟨items.size-i'-1,by omega⟩
  rw[hk,List.range'_succ,List.cons.injEq]at hrest;obtain ⟨rfl,rfl⟩:=hrest;dsimp only;rw[Array.getElem?_eq_getElem hlt];dsimp only;refine wpAny_bind (hq _ (Array.getElem_mem hlt) _ _ _ _ ?_);by_cases hij:i=j
  ·subst hij;rw[if_pos he];refine wpAny_bind ?_;unfold retInt;refine wpAny_bind (wpAny_mkInt ?_);exact wpAny_pure (wpAny_pure (wpAny_pure hr))
  ·rw[hb i hlt (by omega),if_neg (by decide)]
   exact wpAny_pure ⟨⟨i+1,by omega,by rw[show items.size-(i+1)=k by omega]⟩,rfl,rfl⟩
 ·rintro b s' ⟨⟨i,hi,hr'⟩,rfl,rfl⟩
  exfalso
  have:=congrArg List.length hr'
  simp at this
  omega
section
variable {X:Cx}
theorem aQ1 (K:PySem.W.Frag)(h:X.K=K:=by rfl):MtR X "tuple.index" (λx xs H Q=>∃(p:Addr) (l:List Int) (k:Int),x=.ref p/\xs=[.int k]/\SqT K H p (l.map V.int)/\k∈l/\Q (.int (l.idxOf k)) H):=by
 subst h;intro pins s σ H x xs v us Q I rx rv ⟨p,l,k,e1,e2,hq,hk,q⟩;subst e1;subst e2;cases rx;obtain ⟨u,rfl,t,rfl⟩:=v7 rv;obtain ⟨its,r,hT,hz⟩:=I.tuple hq;obtain ⟨⟨oc,od,odata,osl⟩,e,c,n,d⟩:=hT;dsimp only at c d;subst c;subst d;have hl:=r.length;rw[Aa3]at hl;have hj:l.idxOf k<l.length:=List.idxOf_lt_length_iff.mpr hk;have at_:∀(j:Nat) (hj:j<its.toArray.size),∃t,its.toArray[j]=Value.int (l[j]'(by simpa[hl]using hj)) t:=λj hj=>by
  have hj':j<l.length:=by simpa[hl]using hj
  obtain ⟨u,h1,t,rfl⟩:=r.get (i:=j) (x:=.int l[j]) (by rw[Aa9,Aa2 hj'];rfl)
  have:=(Ab0.mp h1).2
  exact⟨t,by simpa using this⟩
 refine call_meets F.slot_tuple_index ⟨_,e,rfl⟩ F.entry_tuple_index (F.args_tuple_index_2 _ _) (aO0 p its.toArray n od osl (.int k t) (λy=>match y with | .int i _=>i==k | _=>false) (l.idxOf k) (by simpa[<- hl]using hj) ?_ ?_) ⟨e,λy hy=>?_,?_⟩
 ·obtain ⟨t',e'⟩:=at_ (l.idxOf k) (by simpa[<- hl]using hj)
  rw[e'];simp
 ·intro m hm hlt;obtain ⟨t',e'⟩:=at_ m hm;rw[e']
  have:l[m]'(by simpa[hl]using hm)≠k:=λz=>by
   have h1:m<l.length:=by simpa[hl]using hm
   exact bH0 h1 hlt z
  simpa using this
 ·obtain ⟨j,hj,rfl⟩:=Array.mem_iff_getElem.mp hy;obtain ⟨t',e'⟩:=at_ j hj;rw[e'];exact SeqAt.EqAt.int_int _ _ _ _
 ·exact⟨.int _,H,I.tok _,⟨_,rfl⟩,q⟩
theorem v5 {P:Program}{w:World}{A:Around}{E:Value->Shared->Prop}{s:Shared}{t sl:Addr}{items:Array Value}{vl vu:Value}{lo hi:Option Int}{Q:Value->Shared->Prop}(ht:IsTup s.heap t items)(hs:s.heap.IsSliceOf sl vl vu .none)(pl:IsPart vl lo)(pu:IsPart vu hi)
  (hw:HT.sIx items.size 0 lo=0/\HT.sIx items.size items.size hi=items.size) (h:Q (.ref t) s):wpAny (model P w) A (getItem (.ref t) (.ref sl)) Q E s:=by
 obtain ⟨os,hos,hcs,hds⟩:=id hs;have hTs:s.TypeIs (.ref sl) "slice" := ⟨os,hos,hcs⟩;unfold getItem
 try with_reducible refine wpAny_holding ?_
 first | refine wpAny_bind (wpAny_pure ?_) | skip
 refine wpAny_bind (wpAny_sequenceKey ht.typeIs (by decide) ?_)
 refine wpAny_bind (wpAny_callSpecial?_slot (name:=Str.ofString "__getitem__") ht.typeIs PyProof.Rows.slot_tuple_getitem
  (wpAny_call_entry PyProof.Rows.slot_tuple_getitem ht.typeIs entry_tuple_getitem ?_ (args_tuple_getitem _ _)))
 show wpAny _ _ (Builtin.Tuple.tupleItemsOf (.ref t) >>= _) _ _ s
 refine wpAny_bind (tupleItemsOf_ ht ?_);refine wpAny_bind (wpAny_typeOf hTs ?_);rw[if_pos (by decide)]
 refine wpAny_bind (HT.Y4 hs pl pu ?_);have hyes:((((HT.sIx items.size 0 lo:Nat):Int)==0&&(1:Int)==1&&(HT.sIx items.size items.size hi-HT.sIx items.size 0 lo)==items.size)=true):=by
  rw[hw.1,hw.2];simp
 show wpAny _ _ (if(((HT.sIx items.size 0 lo:Nat):Int)==0&&(1:Int)==1&&(HT.sIx items.size items.size hi-HT.sIx items.size 0 lo)==items.size)=true then _ else _) _ _ s
 rw[if_pos hyes];refine wpAny_bind ?_;unfold Builtin.Tuple.tupleIsExact;refine wpAny_bind (wpAny_typeOf ht.typeIs (wpAny_pure ?_));rw[if_pos (by decide)]
 exact wpAny_bind (wpAny_rule (wpAny_pure ⟨_,rfl,wpAny_pure h⟩))
def cR7 (K:PySem.W.Frag):V->Option Int->Option Int->Hp->VK->Prop:=λx lo hi H Q=>∃a xs,x=.ref a/\SqT K H a xs /\
 (HT.sIx xs.length 0 lo=0/\HT.sIx xs.length xs.length hi=xs.length->Q (.ref a) H) /\
 (¬(HT.sIx xs.length 0 lo=0/\HT.sIx xs.length xs.length hi=xs.length)->∀p,H p=none->Q (.ref p) (upd H p (.tup (aT6 xs lo hi))))
theorem cV8 (K:PySem.W.Frag)(h:X.K=K:=by rfl):SlR X (cR7 K):=by
 subst h;intro pins s σ H x v vl vu lo hi sl Q I rx hs pl pu h;obtain ⟨a,xs,e,hx,q1,q2⟩:=h;by_cases hw:HT.sIx xs.length 0 lo=0/\HT.sIx xs.length xs.length hi=xs.length
 ·subst e;cases rx;obtain ⟨its,r,ht,hz⟩:=I.tuple hx;have hlen:its.toArray.size=xs.length:=by rw[Ab2];exact r.length.symm
  refine⟨"tuple",_,PyProof.Rows.slot_tuple_getitem.lookup,ht.typeIs,?_⟩;exact v5 ht hs pl pu (by rw[hlen];exact hw) ⟨.ref a,H,I,rfl,q1 hw⟩
 ·exact cN6 pins s σ H x v vl vu lo hi sl Q I rx hs pl pu ⟨a,xs,e,hx,hw,q2 hw⟩
theorem bV4 (K:PySem.W.Frag)(h:X.K=K:=by rfl):OpR X (binaryOp .Add) (bX1 K):=h▸cE6
end
section
variable {K:PySem.W.Frag}{ρ:List Sl}{m:Bool}{t ta tb:TE}{d:PyData}{ds es:List PyData}
theorem aP2 (h:J8 ds=true):imm (.tuple ds)=true:=by simp[imm,h]
theorem cI3 {tl th:TO}{lo hi:Option Int}(ha:E K false ta ρ (.tuple ds))(hl:O K tl ρ lo)(hh:O K th ρ hi)(him:J8 ds=true):E K m (tSl (cR7 K) ta tl th) ρ (.tuple (y7 ds lo hi)):=
 E.bor (E.imm (m:=false) (λS B σ H o I Q q=>ha S B σ H o I _ λx H1 s1 rx=>hl S B σ H1 o (I.grow s1) _ λH2 s2=>hh S B σ H2 o ((I.grow s1).grow s2) _ λH3 s3=>by
  cases rx with
  | @tup a xs _ sa ra=>
  have s13:=L2.Same.tr s2 s3
  have hlen:=ra.length
  refine⟨a,xs,rfl,G8 s13 sa,λhw=>q _ _ (L2.Same.tr s1 s13) ?_,λ_ p hp=>q _ _ (L2.Same.tr s1 (L2.Same.tr s13 (D5 hp))) (.tup (SqT.of C0) (((ra.mono s13).cut lo hi).mono (D5 hp)))⟩
  have e:y7 ds lo hi=ds:=by
   unfold y7;rw[<- hlen,hw.1,hw.2,hlen]
   simp
  rw[e];exact .tup (G8 s13 sa) (ra.mono s13)) (aP2 (P6 lo hi him)))
theorem cK6 (ha:E K false ta ρ (.tuple ds))(hb:E K false tb ρ (.tuple es))(hi:J8 ds=true)(hi':J8 es=true)(hn:ds≠[])(hl:ds.length+es.length<=sizeLine:=by first | decide | (unfold PySem.sizeLine;simp;done)):E K m (tOp (bX1 K) ta tb) ρ (.tuple (ds++es)):=
 E.bor (E.imm (m:=false) (λS B σ H o I Q q=>ha S B σ H o I _ λx H1 s1 rx=>hb S B σ H1 o (I.grow s1) _ λy H2 s2 ry=>by
  cases rx with
  | @tup a xs _ sa ra=>
  cases ry with
  | @tup b ys _ sb rb=>
  have ra':=ra.mono s2
  refine⟨a,b,xs,ys,rfl,rfl,G8 s2 sa,sb,λz=>hn (by cases z;cases ra;rfl),by rw[ra.length,rb.length];exact hl,λz=>q _ _ (L2.Same.tr s1 s2) ?_,λ_ p hp=>q _ _ (L2.Same.tr s1 (L2.Same.tr s2 (D5 hp))) (.tup (SqT.of C0) ((ra'.append rb).mono (D5 hp)))⟩
  cases z
  cases rb
  rw[List.append_nil];exact .tup (G8 s2 sa) ra') (aP2 (by rw[o4,hi,hi'];rfl)))
theorem cB4 {H:Hp}{p:V}{l:List Int}(r:Rep K H p (tI l)):∃a,p=.ref a/\SqT K H a (l.map V.int):=by
 cases r with
 | @tup a xs _ s r=>exact⟨a,rfl,by rw[<- r.ints];exact s⟩
theorem bA7 {l:List Int}{k:Int}(ha:E K false ta ρ (tI l))(hb:E K false tb ρ (.int k))(hk:k∈l) :
  E K m (tBM K "tuple" (λx xs H Q=>∃(p:Addr) (l:List Int) (k:Int),x=.ref p/\xs=[.int k]/\SqT K H p (l.map V.int)/\k∈l/\Q (.int (l.idxOf k)) H) ta (E1 tb S6)) ρ (.int (l.idxOf k)):=E.bor (E.imm (m:=false) λS B σ H o I Q q=>ha S B σ H o I _ λv H1 s1 r=>by
 obtain ⟨p,rfl,s⟩:=cB4 r;refine⟨.inr (.inl ⟨rfl,_,s⟩),?_⟩;refine hb S B σ H1 o (I.grow s1) _ λu H2 s2 r2=>?_
 cases r2
 exact⟨p,l,k,rfl,rfl,G8 s2 s,hk,q _ H2 (L2.Same.tr s1 s2) (.int _)⟩)
theorem bO5 {i:Nat}{R:AE}(hi:ρ[i]? = some (.own ds))(h:EF K t ρ es)(hl:ds.length+es.length<=sizeLine)(hn:R.nx (ρ.set i (.own (ds++es))))(nb:S7 ρ=true:=by rfl) :
  W K (aP4 (tBM K "list" bI8 (D9 i) (E1 t S6))) ρ R:=λS B D σ H o I s=>by
 obtain ⟨p,hp,a,xs,b,c⟩:=I.own i ds hi;refine⟨_,a,.inl ⟨rfl,xs,SqL.of b⟩,?_⟩;refine h S B σ H o I _ λq ys H' s' n e r=>?_
 refine⟨_,_,xs,ys,rfl,rfl,s' _ _ b,e,by rw[c.length,r.length];exact hl,?_⟩
 exact s.nx _ σ _ _ ((I.grow s').upd hi hp ((c.mono (K1 s')).append (r.mono (D4 (L2.Same.rf _) λb z _=>.inl z))) (L6 nb)) hn
end
end LV
namespace L2
open PySem PySem.Spec PyProof.Rows
section
variable {X:Cx}{pins:List (Addr×Obj)}{σ:St}{H:Hp}{s:Shared}{h':Heap}
theorem Inv.turnedL {t':Nat}{fp:List Addr}(I:Inv X pins σ H s)(k:∀b o,b∉fp->s.heap.get? b=some o->h'.get? b=some o)(hf:∀b∈fp,aM4 X pins H b):Inv X pins σ H {s with heap:=h',toks:=t'}:=by
 have nit:∀b u,H b=some u->b∉fp:=λb u e z=>by rw[(hf b z).1]at e;cases e
 refine I.step (g':=s.gens) (d':=s.drawn) (ch:=fp) (λb hb=>?_) (λb o _ _ hc e _=>k b o hc e) (λb o _ _ hc e _=>⟨o.slots,k b o hc e⟩) (λ_ _ _ _ n=>n)
  (λb o hc e=>⟨o,k b o hc e⟩) (λ_ _ e=>e) (λ_ _ _ e=>e) (λb ps e=>⟨#[],by rw[e];simp⟩) (λm hm=>?_) (λb u e=>?_) I.bare
 ·obtain ⟨_,f1,_,f3,f4,f5⟩:=hf b hb;exact⟨f3,f1,f4,f5⟩
 ·obtain ⟨o,es,ep,ho,r⟩:=hm;exact⟨o,es,ep,k _ o (λz=>(hf _ z).2.1 rfl) ho,r⟩
 ·refine(I.hok b u e).stay (λc v hc q=>k c v ?_ q) (λ_ q=>q) λ_ _ _ q=>q
  rcases hc with z | z
  ·rw[z];exact nit b u e
  ·exact nit c _ z
theorem Inv.turnedLaid {t':Nat}{fp:List Addr}{T:Addr}{ob:HO}(I:Inv X pins σ H s)(k:∀b o,b∉fp->s.heap.get? b=some o->h'.get? b=some o)(hf:∀b∈fp,aM4 X pins H b)(hT:s.heap.objs.size<=T)
  (new:ObjOk X.prog X.w (upd H T ob) h' T ob):Inv X pins σ (upd H T ob) {s with heap:=h',toks:=t'}:=by
 have nit:∀b u,H b=some u->b∉fp:=λb u e z=>by rw[(hf b z).1]at e;cases e
 have HT:H T=none:=I.hok.fresh hT
 have nT:∀b o,s.heap.get? b=some o->b≠T:=λb o e z=>by have h1:b<s.heap.objs.size:=Ab3 e;rw[z]at h1;exact absurd (Ab8 h1 hT) (Ad9 _)
 have nH:∀b u,H b=some u->b≠T:=λb u e z=>by rw[z,HT]at e;cases e
 refine I.step (g':=s.gens) (d':=s.drawn) (ch:=fp) (λb hb=>?_) (λb o _ _ hc e _=>k b o hc e) (λb o _ _ hc e _=>⟨o.slots,k b o hc e⟩) (λb o _ e n=>by rw[B0 (nT b o e)];exact n)
  (λb o hc e=>⟨o,k b o hc e⟩) (λb _ e=>by rw[B0 (nH b _ e)];exact e) (λb _ _ e=>by rw[B0 (nH b _ e)];exact e) (λb ps e=>⟨#[],by rw[B0 (nH b _ e),e];simp⟩) (λm hm=>?_) (λb u e=>?_) I.bare
 ·obtain ⟨_,f1,_,f3,f4,f5⟩:=hf b hb;exact⟨f3,f1,f4,f5⟩
 ·obtain ⟨o,es,ep,ho,r⟩:=hm;exact⟨o,es,ep,k _ o (λz=>(hf _ z).2.1 rfl) ho,r⟩
 ·by_cases hb:b=T
  ·subst hb;rw[C0]at e;cases e;exact new
  rw[B0 hb]at e;refine(I.hok b u e).stay (λc v hc q=>k c v ?_ q) (λc q=>by rw[B0 (nH c _ q)];exact q) λc _ _ q=>by rw[B0 (nH c _ q)];exact q
  rcases hc with z | z
  ·rw[z];exact nit b u e
  ·exact nit c _ z
end
end L2
namespace LV
open PySem PySem.Spec PyProof.Rows L2
section
variable {K:PySem.W.Frag}{ρ:List Sl}{m:Bool}{t ta tb:TE}{d d':PyData}{ds es:List PyData}
def enD (ds:List PyData):List PyData:=ds.mapIdx λi d=>.tuple [.int (i:Int),d]
theorem bN0:(enD ds).length=ds.length:=by simp[enD]
theorem bF1 {i:Nat}{d:PyData}(h:(enD ds)[i]? = some d):∃y,ds[i]? = some y/\d=.tuple [.int (i:Int),y]:=by
 unfold enD at h;rw[List.getElem?_mapIdx]at h;obtain ⟨y,h1,h2⟩:=Option.map_eq_some_iff.mp h;exact⟨y,h1,h2.symm⟩
end
end LV
namespace L2
open PySem PySem.Spec PyProof.Rows
section
variable {prog:Program}{w:World}{A:Around}{E:Value->Shared->Prop}{s:Shared}
theorem aR0 {a:Addr}{o:Obj}{items:Array Value}{n:Nat}{M:Model}{Q:Option (Array Value)->Shared->Prop}(e:s.heap.get? a=some o)(d:o.data=.seq items n)(h:Q (some items) s):wpAny M A (seqItems? (.ref a)) Q E s:=by
 unfold seqItems?;refine wpAny_bind (wpAny_load e ?_);rw[d];exact wpAny_pure h
theorem aD3 {it t:Addr}{i:Nat}{items:Array Value}{x:Value}{Q:Value->Shared->Prop}(st:s.heap.IsTupleIter it t i)(ht:s.heap.IsTuple t items)(hx:items[i]? = some x)
  (h:∀h':Heap,h'.IsTupleIter it t (i+1)->Heap.SameBut it s.heap h'->Q x {s with heap:=h'}):wpAny (model prog w) A (Builtin.SmallTypes.nextOf (.ref it)) Q E s:=by
 unfold Builtin.SmallTypes.nextOf;refine wpAny_bind (wpAny_callSpecial?_slot st.typeIs slot_tupleiter_next (wpAny_call_entry slot_tupleiter_next st.typeIs entry_tupleiter_next ?_ (args_tupleiter_next _)));obtain ⟨o,e,c,d⟩:=id st;obtain ⟨ot,et,ct,n,dt⟩:=ht;have e0:slotArgs "__next__" 0 {pos:=[.ref it]}=pure (.ref it,[]):=rfl;refine wpAny_bind (m:=slotArgs "__next__" 0 {pos:=[.ref it]}) ?_;rw[e0];refine wpAny_pure ?_;refine wpAny_bind (m:=field (.ref it) 0) (wpAny_field e d rfl ?_);refine wpAny_bind (m:=field (.ref it) 1) (wpAny_field e d rfl ?_);refine wpAny_bind (m:=seqItems? (.ref t)) (aR0 et dt ?_);show wpAny _ _ (match items[(i:Int).toNat]? with | some x=>_ | none=>_) _ _ _
 rw[Ac8,hx];refine wpAny_bind (m:=setField (.ref it) 1 (rawInt ((i:Int)+1))) (wpAny_setField e d (by simp) ?_)
 obtain ⟨oc,od,odata,osl⟩:=o;dsimp only at c d;subst c;subst d;exact wpAny_pure ⟨x,rfl,wpAny_pure (h _ ⟨_,Heap.get?_update_self _ e rfl,rfl,rfl⟩ (Heap.SameBut.update _ _ _))⟩
theorem cV5 {α:Type}{M:Model}{Q:α->Shared->Prop}(hh:A.handled=none)(h:∀(h':Heap) (e:Addr),(∀b o,s.heap.get? b=some o->h'.get? b=some o)->(∃o,h'.get? e=some o/\o.cls=.type "StopIteration")->E (.ref e) {s with heap:=h'}) :
  wpAny M A (Builtin.SmallTypes.stopIteration (α := α)) Q E s:=by
 unfold Builtin.SmallTypes.stopIteration newExc;refine wpAny_bind ?_;refine wpAny_bind (wpAny_newTuple ?_ (by show 0<=sizeLine;exact Nat.zero_le _))
 have e1:firstArgMember (.type "StopIteration") []=pure .none:=by
  unfold firstArgMember;show(pure _ >>= λhas=>pure (if has=true then _ else _))=_
  cases (Manifest.find? "StopIteration").elim false λt=>t.mro.contains "StopIteration" || t.mro.contains "SystemExit" <;> rfl
 rw[e1];refine wpAny_bind (wpAny_pure ?_);refine wpAny_newObj_type ?_ (by show(6:Nat)<=sizeLine+2;decide)
 refine wpAny_raiseNew_none hh (h _ _ (λb o q=>Aa6 _ (Aa6 _ q)) ⟨_,Ac3 _ rfl,rfl⟩)
theorem Y7 {it t:Addr}{i:Nat}{items:Array Value}{Q:Value->Shared->Prop}(hh:A.handled=none)(st:s.heap.IsTupleIter it t i)(ht:s.heap.IsTuple t items)(hx:items[i]? = none)
  (h:∀(h':Heap) (e:Addr),Heap.ExtBut it s.heap h'->(∃o,h'.get? e=some o/\o.cls=.type "StopIteration")->E (.ref e) {s with heap:=h'}):wpAny (model prog w) A (Builtin.SmallTypes.nextOf (.ref it)) Q E s:=by
 unfold Builtin.SmallTypes.nextOf;refine wpAny_bind (wpAny_callSpecial?_slot st.typeIs slot_tupleiter_next (wpAny_call_entry slot_tupleiter_next st.typeIs entry_tupleiter_next ?_ (args_tupleiter_next _)));obtain ⟨o,e,c,d⟩:=id st;obtain ⟨ot,et,ct,n,dt⟩:=ht;have e0:slotArgs "__next__" 0 {pos:=[.ref it]}=pure (.ref it,[]):=rfl;refine wpAny_bind (m:=slotArgs "__next__" 0 {pos:=[.ref it]}) ?_;rw[e0];refine wpAny_pure ?_;refine wpAny_bind (m:=field (.ref it) 0) (wpAny_field e d rfl ?_);refine wpAny_bind (m:=field (.ref it) 1) (wpAny_field e d rfl ?_);refine wpAny_bind (m:=seqItems? (.ref t)) (aR0 et dt ?_);show wpAny _ _ (match items[(i:Int).toNat]? with | some x=>_ | none=>_) _ _ _
 rw[Ac8,hx];refine wpAny_bind (wpAny_rule ?_);refine wpAny_bind (m:=setField (.ref it) 0 .none) (wpAny_setField e d (by simp) ?_)
 exact cV5 hh λh' ex kp N=>h h' ex (λb o hb q=>kp b o (by rw[Heap.get?_update_ne _ _ _ _ hb];exact q)) N
theorem aZ9 (hh:A.handled=none)(it t:Addr)(hne:t≠it)(items:Array Value):Draws prog w A it [it,t] items.size (λi v=>items[i]? = some v) λi h=>h.IsTupleIter it t i/\h.IsTuple t items where
 live:=λi h st=>⟨_,st.1.choose_spec.1⟩
 frame:=λi h h' st k=>⟨st.1.at λo e=>k it (by simp) o e,by
  obtain ⟨o,e,r⟩:=st.2;exact⟨o,k t (by simp) o e,r⟩⟩
 item:=λi s Q E hi st h=>by
  have hx:items[i]? = some items[i]:=Array.getElem?_eq_getElem hi
  refine aD3 st.1 st.2 hx λh' st' sb=>h _ h' s.toks hx ⟨st',?_⟩ sb
  obtain ⟨o,e,r⟩:=st.2;exact⟨o,by rw[sb.2 t hne];exact e,r⟩
 done:=λs Q E st h=>Y7 hh st.1 st.2 (by simp) h
theorem aF4 (t:Addr)(items:Array Value):Meets (Builtin.«enumerate.__new__» {pos:=[.type "enumerate",.ref t]}) λx R s=>
  s.heap.IsTuple t items/\R (.ok (.ret (.ref (s.heap.push {cls:=.type "tuple_iterator",data:=.fields #[.ref t,.int 0 0]}).objs.size)))
   {s with heap:=(s.heap.push {cls:=.type "tuple_iterator",data:=.fields #[.ref t,.int 0 0]}).push {cls:=.type "enumerate",data:=.fields #[.none,.bool false,.ref s.heap.objs.size,rawInt 0,.none,.none]}}:=by
 intro prog w A R s ⟨ht,hr⟩;unfold Builtin.«enumerate.__new__»;have e0:Builtin.SmallTypes.newClass "enumerate" {pos:=[.type "enumerate",.ref t]}=pure (.type "enumerate",[.ref t]):=by
  unfold Builtin.SmallTypes.newClass;show(pure true >>= _)=_;rw[pure_bind];show(isSubtype (.type "enumerate") (.type "enumerate") >>= _)=_;rw[F.called_enumerate.sub];rfl
 rw[e0];refine wpAny_bind (wpAny_pure ?_);dsimp only;rw[if_pos (by decide)]
 refine wpAny_bind ?_;unfold Builtin.SmallTypes.calledThroughType;refine wpAny_bind (wpAny_stack λst _ _ _=>wpAny_pure ?_)
 have fin:wpAny (model prog w) A.in1 (do
   let it <- pyIter (.ref t)
   let r <- Builtin.SmallTypes.newRecord (.type "enumerate") (Builtin.SmallTypes.ownedTupleFields++[it,rawInt 0,.none,.none])
   ret r) (λfin s'=>match fin with | .done f=>R (.ok f) s' | .again c'=>c'.quiet=true/\codeAny (model prog w) A c' R s') (λe s'=>R (.error e) s') s:=by
  refine wpAny_bind (wpAny_pyIter_tuple ht ?_);refine wpAny_bind (m:=Builtin.SmallTypes.newRecord _ _) ?_;unfold Builtin.SmallTypes.newRecord;exact wpAny_newObj_type (wpAny_pure hr) (by show(6:Nat)<=sizeLine+2;decide)
 have key:∀(short:Bool) (C N:Sem PySem.Fin),wpAny (model prog w) A.in1 C (λfin s'=>match fin with | .done f=>R (.ok f) s' | .again c'=>c'.quiet=true/\codeAny (model prog w) A c' R s') (λe s'=>R (.error e) s') s->wpAny (model prog w) A.in1 N (λfin s'=>match fin with | .done f=>R (.ok f) s' | .again c'=>c'.quiet=true/\codeAny (model prog w) A c' R s') (λe s'=>R (.error e) s') s->wpAny (model prog w) A.in1 (if short=true then C else N) (λfin s'=>match fin with | .done f=>R (.ok f) s' | .again c'=>c'.quiet=true/\codeAny (model prog w) A c' R s') (λe s'=>R (.error e) s') s:=λshort C N h1 h2=>by
  cases short
  ·rw[if_neg (by decide)];exact h2
  ·rw[if_pos rfl];exact h1
 refine key _ _ _ ?_ ?_
 ·exact wpAny_bind (m:=pure (Value.ref t,none)) (wpAny_pure fin)
 ·exact wpAny_bind (m:=pure (Value.ref t,none)) (wpAny_pure fin)
theorem o6 {t:Addr}{items:Array Value}{Q:Value->Shared->Prop}(ht:s.heap.IsTuple t items)
  (h:∀h':Heap,IsEnum h' (s.heap.objs.size+1) s.heap.objs.size 0 .none->h'.IsTupleIter s.heap.objs.size t 0->(∀b o,s.heap.get? b=some o->h'.get? b=some o)->Q (.ref (s.heap.objs.size+1)) {s with heap:=h'}) :
  wpAny (model prog w) A (call (.type "enumerate") [.ref t]) Q E s:=by
 have e1:(s.heap.push {cls:=.type "tuple_iterator",data:=.fields #[.ref t,.int 0 0]}).objs.size=s.heap.objs.size+1:=by simp[Heap.push]
 refine callType_new F.called_enumerate (by decide) (F.typeCall_enumerate_1 _) (F.newCall_enumerate_1 _) (λobj=>F.args_object_init_2 _ _) F.entry_enumerate_new (aF4 t items) ⟨ht,?_⟩
 show _/\_
 rw[e1];have g2:((s.heap.push {cls:=.type "tuple_iterator",data:=.fields #[.ref t,.int 0 0]}).push {cls:=.type "enumerate",data:=.fields #[.none,.bool false,.ref s.heap.objs.size,rawInt 0,.none,.none]}).get? (s.heap.objs.size+1)=some {cls:=.type "enumerate",data:=.fields #[.none,.bool false,.ref s.heap.objs.size,rawInt 0,.none,.none]}:=by
  have:=Ac3 (h:=s.heap.push {cls:=.type "tuple_iterator",data:=.fields #[.ref t,.int 0 0]}) (o:={cls:=.type "enumerate",data:=.fields #[.none,.bool false,.ref s.heap.objs.size,rawInt 0,.none,.none]}) rfl
  rw[e1]at this;exact this
 exact⟨⟨_,g2,rfl⟩,h _ g2 ⟨_,Aa6 _ (Ac3 _ rfl),rfl,rfl⟩ λb o q=>Aa6 _ (Aa6 _ q)⟩
end
def Iet (K:PySem.W.Frag)(a:Addr):It:=
 ⟨λi H=>∃xs x,SqT K H a xs/\xs[i]? = some x,λi H x H'=>∃T y,x=.ref T/\H T=none/\H'=upd H T (.tup [.int (i:Int),y])/\∀xs,SqT K H a xs->xs[i]? = some y,λi H=>∃xs,SqT K H a xs/\xs.length<=i⟩
theorem tuple_inj {X:Cx}{pins:List (Addr×Obj)}{σ:St}{H:Hp}{s:Shared}{a:Addr}{xs ys:List V}(I:Inv X pins σ H s)(h:SqT X.K H a xs)(h':SqT X.K H a ys):xs=ys:=by
 obtain ⟨its,r,⟨o,e,_,n,d⟩,_⟩:=I.tuple h;obtain ⟨its',r',⟨o',e',_,n',d'⟩,_⟩:=I.tuple h';rw[e]at e';cases e';rw[d]at d'
 injection d' with d1 _
 have:its=its':=by simpa using congrArg Array.toList d1
 subst this;exact r.inj r'
theorem bG5 {P:Program}{w:World}{K:PySem.W.Frag}{elts:List Expr}{k:_}{pos:Pos}(a e it:Addr)(hne:e≠it):bH3 P w K (.Tuple elts k pos) (Iet K a) [e,it] e (λi h=>(∃old,IsEnum h e it (i:Int) old)/\h.IsTupleIter it a i) where
 mem:=by simp
 obj:=λi h st b hb=>by
  obtain ⟨⟨old,he⟩,o,e1,c,d⟩:=st;rcases Aa1.mp hb with rfl | hb
  ·exact⟨_,he,λv z=>by cases z⟩
  ·have eb:b=it:=by simpa using hb
   subst eb;exact⟨o,e1,λv z=>by rw[d]at z;cases z⟩
 keep:=λi h h' st k=>⟨⟨st.1.choose,k e (by simp) _ st.1.choose_spec⟩,st.2.at λo q=>k it (by simp) o q⟩
 item:=by
  intro X hP hw hK hc i pins s σ H E I hf st hg;subst hP hw hK;obtain ⟨⟨old,he⟩,hi⟩:=st;obtain ⟨xs,x,hq,hx⟩:=hg;obtain ⟨its,rv,p,hz⟩:=I.tuple hq;obtain ⟨u,hu,ru⟩:=rv.get hx;have ea:a≠e:=λz=>by
   obtain ⟨o,q,c,_⟩:=p;rw[z]at q;rw[show s.heap.get? e=_ from he]at q
   cases q
   injection c with c
   exact absurd c (by decide)
  have eit:a≠it:=λz=>by
   obtain ⟨o,q,c,_⟩:=p;obtain ⟨o',q',c',_⟩:=hi;rw[z,q']at q;cases q;rw[c']at c
   injection c with c
   exact absurd c (by decide)
  have hlt:i<its.toArray.size:=by have:=(Ab0.mp hu).1;simpa using this
  refine wpAny_pyNext_enum_itemD (aZ9 (A:=X.A.in1) (I.ok.hd hc) it a eit its.toArray) he ⟨hi,p⟩ hlt hne (by simp[hne,Ne.symm ea]) λy h' tk hy ho hst hT hs kp=>?_
  have ey:y=u:=by
   have h1:its.toArray[i]? = some u:=by simpa using hu
   rw[h1]at hy;exact(Ab4 hy).symm
  subst ey;obtain ⟨hi',p'⟩:=hst;refine⟨_,rfl,?_⟩;have Te:s.heap.objs.size≠e:=λz=>by have h1:=Ab3 he;rw[z]at h1;exact Ad9 _ h1
  have Ti:s.heap.objs.size≠it:=λz=>by
   obtain ⟨o',q',_⟩:=hi;have h1:=Ab3 q';rw[z]at h1;exact Ad9 _ h1
  unfold letOwnedTupleGo;refine wpAny_bind (wpAny_load ho ?_);dsimp only;rw[if_pos (by simp[rawInt])]
  refine wpAny_bind (wpAny_rule ?_);unfold updateField;refine wpAny_bind (wpAny_load ho ?_);dsimp only;rw[if_pos (by simp)]
  refine wpAny_update ho ?_;have he2:(h'.update e (Obj.mapFields λx=>x.setIfInBounds 0 .none)).get? e=some {cls:=.type "enumerate",data:=.fields #[.none,.bool false,.ref it,rawInt ((i:Int)+1),.none,y]}:=Heap.get?_update_self (h:=h') (o:={cls:=.type "enumerate",data:=.fields #[rawInt (s.heap.objs.size:Int),.bool false,.ref it,rawInt ((i:Int)+1),.none,y]}) (λo=>Obj.mapFields (λx=>x.setIfInBounds 0 .none) o) ho rfl
  have kp2:∀b o,b≠e->h'.get? b=some o->(h'.update e (Obj.mapFields λx=>x.setIfInBounds 0 .none)).get? b=some o:=λb o hb q=>by rw[Heap.get?_update_ne _ _ _ _ hb];exact q
  have hT2:=kp2 s.heap.objs.size _ Te hT
  refine⟨.ref s.heap.objs.size,upd H s.heap.objs.size (.tup [.int (i:Int),x]),?_,rfl,⟨_,x,rfl,I.hok.fresh (Aa7 _),rfl,λys hy=>by rw[tuple_inj I hy hq];exact hx⟩,⟨⟨y,by rw[show((i+1:Nat):Int)=(i:Int)+1 by omega];exact he2⟩,hi'.at λo q=>kp2 it o (Ne.symm hne) q⟩,λb hb=>?_⟩
  ·refine I.turnedLaid (t':=tk+1) (fp:=[e,it]) (λb o hb q=>kp2 b o (λz=>hb (by simp[z])) (kp b o (λz=>hb (by simp[z])) (λz=>hb (by simp[z])) q)) hf (Aa7 _) ?_
   exact⟨by show 2<=sizeLine;decide,[.int (i:Int) tk,y],.cons ⟨_,rfl⟩ (.cons ru .nil),⟨_,hT2,rfl,⟨_,rfl⟩,rfl⟩⟩
  ·rw[B0]
   ·exact(hf b hb).1
   ·rcases Aa1.mp hb with rfl | hb
    ·exact Ne.symm Te
    ·have eb:b=it:=by simpa using hb
     subst eb;exact Ne.symm Ti
 done:=by
  intro X hP hw hK hc i pins s σ H E I hf st hg;subst hP hw hK;obtain ⟨⟨old,he⟩,hi⟩:=st;obtain ⟨xs,hq,hx⟩:=hg;obtain ⟨its,rv,p,hz⟩:=I.tuple hq;have hl:=rv.length;have hD:Draws X.prog X.w X.A.in1 it [it,a] i (λ_ _=>False) (λj h=>j=i/\h.IsTupleIter it a i/\h.IsTuple a its.toArray):=⟨λj h st=>⟨_,st.2.1.choose_spec.1⟩,λj h h' st k=>⟨st.1,st.2.1.at λo e=>k it (by simp) o e,by
   obtain ⟨o,e,r⟩:=st.2.2;exact⟨o,k a (by simp) o e,r⟩⟩,λj s Q E hj st _=>absurd st.1 (Ab9 hj),λs Q E st h=>Y7 (I.ok.hd hc) st.2.1 st.2.2 (by simp;omega) h⟩
  exact wpAny_pyNext_enum_endD hD he ⟨rfl,hi,p⟩ λh' eb=>⟨rfl,I.turnedL (t':=s.toks) (λb o hb q=>eb b o (λz=>hb (by simp[z])) q) hf⟩
 self:=λ_ _ _ _ _ st h=>wpAny_pyIter_enum st.1.choose_spec h
section
variable {X:Cx}{elts:List Expr}{k:Nat}{ps:Pos}
def bX5 (K:PySem.W.Frag)(ta:TA):TI:=λσ H R=>ta σ H λvs H1=>∃a xs,vs=[.ref a]/\SqT K H1 a xs/\R (Iet K a) H1
theorem bY8 {l:Expr}{ta:TA}{p pos:Pos}(K:PySem.W.Frag)(hg:Gl X "enumerate")(hm:X.mg "enumerate" = none)(ha:PA X [l] ta)(hK:X.K=K:=by rfl)(hs:starEach [l] X.env=[(false,eval l X.env)]:=by rfl):PI X (.Tuple elts k ps) (.Call (.Name "enumerate" p) [l] [] pos) (bX5 K ta):=by
 subst hK;refine⟨?_⟩;intro pins s σ H R I h;refine Call_ (Y1 I hg hm boot_enumerate (PyProof.Rows.callWith_type1 (thn (ha pos pins s σ H _ I h) λus s1 ⟨vs,H1,I1,r1,q1⟩=>?_) hs rfl))
 obtain ⟨a,xs,e,hq,q⟩:=q1;subst e;obtain ⟨u,rfl,rx⟩:=v7 r1;cases rx;obtain ⟨its,rv,pl,hz⟩:=I1.tuple hq;refine o6 pl λh' he hi kp=>?_
 refine wpAny_pyIter_enum he ?_;refine⟨s1.heap.objs.size+1,[s1.heap.objs.size+1,s1.heap.objs.size],_,_,H1,rfl,I1.kept (t':=s1.toks) kp,bG5 a _ _ (by simp),⟨⟨_,he⟩,hi⟩,λb hb=>?_,q⟩
 rcases Aa1.mp hb with rfl | hb
 ·exact I1.fpOk (Nat.le_succ _) (I1.hok.fresh (Nat.le_succ _))
 ·have e:b=s1.heap.objs.size:=by simpa using hb
  subst e;exact I1.fpOk (Aa7 _) (I1.hok.fresh (Aa7 _))
end
end L2
namespace LV
open PySem PySem.Spec PyProof.Rows L2
section
variable {K:PySem.W.Frag}{ρ:List Sl}{m:Bool}{t ta tb:TE}{d d':PyData}{ds es:List PyData}
theorem bV2 {Z:Hp}{a:Addr}{xs:List V}(s:SqT K Z a xs)(r:Reps K Z xs ds):Wk K Z (Iet K a) (enD ds) where
 stop:=λi H h l=>⟨xs,G8 h s,by rw[r.length,<- bN0];exact l⟩
 go:=λi H d h e=>by
  obtain ⟨y,e,_⟩:=bF1 e;obtain ⟨v,h1,_⟩:=r.get' e;exact⟨xs,v,G8 h s,h1⟩
 yld:=λi H d x H' h e y=>by
  obtain ⟨z,e',rfl⟩:=bF1 e;obtain ⟨T,v,rfl,hT,rfl,y⟩:=y
  have:=y xs (G8 h s)
  obtain ⟨d',h1,h2⟩:=r.get this;rw[e']at h1;cases h1;have g:=D5 (o:=.tup [.int (i:Int),v]) hT;refine⟨g,λS hS=>?_⟩
  have hm:Same Z (hid S (upd H T (.tup [.int (i:Int),v]))):=λb o q=>hid_some.mpr ⟨(λz=>by rw[(hS b z).1]at q;cases q),g b o (h b o q)⟩
  exact .tup (SqT.of (hid_some.mpr ⟨λz=>(hS T z).2 hT,C0⟩)) (.cons (.int _) (.cons (h2.mono hm) .nil))
theorem cD5 {t:TA}(h:A K m t ρ [.tuple ds]):I K m (bX5 K t) ρ (enD ds):=λS B σ H o J R q=>h S B σ H o J _ λvs H1 s1 r=>by
 cases r with
 | cons a b=>
  cases b
  cases a with
  | tup s r=>exact⟨_,_,rfl,G8 aH0 s,q _ H1 s1 (bV2 s r)⟩
end
end LV
namespace TT
variable {F G:Nat->Nat}{m:Nat}{f:Nat->Nat}{d t:List (List Nat)}
end TT
namespace LV
open PySem PyProof.Rows L2
end LV
namespace TT
variable {F G:Nat->Nat}{m:Nat}{f:Nat->Nat}{d t:List (List Nat)}
structure Lnk (s:S):Prop where
 l0:∀q x,x∈s.i0 q->3<=x/\x<s.k+3/\s.o0 x=q
 l1:∀q x,x∈s.i1 q->3<=x/\x<s.k+3/\s.o1 x=q
 l2:∀q x,x∈s.i2 q->3<=x/\x<s.k+3/\s.o2 x=q/\3<=q
theorem aS0 (R:Rws F G m):∀i,i<=m->∀q,i+3<=q->(gst F G i).i2 q=[]
 | 0,_,_,_=>rfl
 | i+1,hi,q,hq=>by
  have SF:=aV4 R (i:=i) (by omega)
  have hk:(gst F G i).k=i:=SF.k
  show put (gst F G i).i2 ((gst F G i).k+3) _ q=[]
  rw[B5 (by omega)]
  exact aS0 R i (by omega) q (by omega)
structure Knl (s:S):Prop where
 k0:∀x,3<=x->x<s.k+3->x∈s.i0 (s.o0 x)
 k1:∀x,3<=x->x<s.k+3->x∈s.i1 (s.o1 x)
 k2:∀x,3<=x->x<s.k+3->s.o2 x≠2->x∈s.i2 (s.o2 x)
theorem bN1 {f:Nat->List Nat}{a q x:Nat}{l:List Nat}(h:x∈f q)(hl:∀y∈f a,y∈l):x∈put f a l q:=by
 by_cases e:q=a
 ·subst e;rw[B3];exact hl x h
 ·rw[B5 e];exact h
theorem bL4 (R:Rws F G m):∀i,i<=m->Knl (gst F G i)
 | 0,_=>⟨λx h1 h2=>absurd h2 (by show ¬x<0+3;omega),λx h1 h2=>absurd h2 (by show ¬x<0+3;omega),λx h1 h2=>absurd h2 (by show ¬x<0+3;omega)⟩
 | i+1,hi=>by
  have L:=bL4 R i (by omega)
  have SF:=aV4 R (i:=i) (by omega)
  have hk:(gst F G i).k=i:=SF.k
  refine⟨λx h3 hx=>?_,λx h3 hx=>?_,λx h3 hx=>?_⟩
  ·have hx:x<(gst F G i).k+1+3:=hx
   show x∈put (gst F G i).i0 (((gst F G i).path.drop (F i-pv F i)).headD 0) ((gst F G i).i0 (((gst F G i).path.drop (F i-pv F i)).headD 0)++[(gst F G i).k+3]) (put (gst F G i).o0 ((gst F G i).k+3) (((gst F G i).path.drop (F i-pv F i)).headD 0) x)
   by_cases e:x=(gst F G i).k+3
   ·subst e;rw[B3,B3];simp
   ·rw[B5 e];exact bN1 (L.k0 x h3 (by omega)) λy hy=>List.mem_append_left _ hy
  ·have hx:x<(gst F G i).k+1+3:=hx
   show x∈put (gst F G i).i1 ((((gst F G i).h1 (F i-pv F i)).drop (G i-pv G i)).headD 0) ((gst F G i).i1 ((((gst F G i).h1 (F i-pv F i)).drop (G i-pv G i)).headD 0)++[(gst F G i).k+3]) (put (gst F G i).o1 ((gst F G i).k+3) ((((gst F G i).h1 (F i-pv F i)).drop (G i-pv G i)).headD 0) x)
   by_cases e:x=(gst F G i).k+3
   ·subst e;rw[B3,B3];simp
   ·rw[B5 e];exact bN1 (L.k1 x h3 (by omega)) λy hy=>List.mem_append_left _ hy
  ·have hx:x<(gst F G i).k+1+3:=hx
   show(if x=(gst F G i).k+3 then 2 else if x∈((gst F G i).h1 (F i-pv F i)).take (G i-pv G i) then(gst F G i).k+3 else(gst F G i).o2 x)≠2->x∈put (gst F G i).i2 ((gst F G i).k+3) (((gst F G i).h1 (F i-pv F i)).take (G i-pv G i)) (if x=(gst F G i).k+3 then 2 else if x∈((gst F G i).h1 (F i-pv F i)).take (G i-pv G i) then(gst F G i).k+3 else(gst F G i).o2 x)
   by_cases e:x=(gst F G i).k+3
   ·rw[if_pos e];intro z;exact absurd rfl z
   ·rw[if_neg e];by_cases e2:x∈((gst F G i).h1 (F i-pv F i)).take (G i-pv G i)
    ·rw[if_pos e2,B3];exact λ_=>e2
    ·rw[if_neg e2];intro z;have hm:=L.k2 x h3 (by omega) z
     by_cases e3:(gst F G i).o2 x=(gst F G i).k+3
     ·exfalso
      have:=aS0 R i (by omega) ((gst F G i).o2 x) (by omega)
      rw[this]at hm;cases hm
     ·rw[B5 e3];exact hm
theorem bM2 (R:Rws F G m):∀i,i<=m->Lnk (gst F G i)
 | 0,_=>⟨λq x h=>(nomatch h),λq x h=>(nomatch h),λq x h=>(nomatch h)⟩
 | i+1,hi=>by
  have L:=bM2 R i (by omega)
  have I:=O8 R i (by omega)
  have SF:=aV4 R (i:=i) (by omega)
  have hk:(gst F G i).k=i:=I.k
  refine⟨λq x h=>?_,λq x h=>?_,λq x h=>?_⟩
  ·show 3<=x/\x<(gst F G i).k+1+3/\put (gst F G i).o0 ((gst F G i).k+3) _ x=q
   have h:x∈put (gst F G i).i0 (((gst F G i).path.drop (F i-pv F i)).headD 0) ((gst F G i).i0 (((gst F G i).path.drop (F i-pv F i)).headD 0)++[(gst F G i).k+3]) q:=h
   have old:x∈(gst F G i).i0 q->3<=x/\x<(gst F G i).k+1+3/\put (gst F G i).o0 ((gst F G i).k+3) (((gst F G i).path.drop (F i-pv F i)).headD 0) x=q:=λh=>by
    obtain ⟨a,b,c⟩:=L.l0 q x h;exact⟨a,by omega,by rw[B5 (by omega)];exact c⟩
   by_cases e:q=((gst F G i).path.drop (F i-pv F i)).headD 0
   ·subst e;rw[B3]at h;rcases Aa0.mp h with h | h
    ·exact old h
    ·rw[Ad8]at h;subst h;exact⟨by omega,by omega,B3⟩
   ·rw[B5 e]at h;exact old h
  ·show 3<=x/\x<(gst F G i).k+1+3/\put (gst F G i).o1 ((gst F G i).k+3) _ x=q
   have h:x∈put (gst F G i).i1 ((((gst F G i).h1 (F i-pv F i)).drop (G i-pv G i)).headD 0) ((gst F G i).i1 ((((gst F G i).h1 (F i-pv F i)).drop (G i-pv G i)).headD 0)++[(gst F G i).k+3]) q:=h
   have old:x∈(gst F G i).i1 q->3<=x/\x<(gst F G i).k+1+3/\put (gst F G i).o1 ((gst F G i).k+3) ((((gst F G i).h1 (F i-pv F i)).drop (G i-pv G i)).headD 0) x=q:=λh=>by
    obtain ⟨a,b,c⟩:=L.l1 q x h;exact⟨a,by omega,by rw[B5 (by omega)];exact c⟩
   by_cases e:q=(((gst F G i).h1 (F i-pv F i)).drop (G i-pv G i)).headD 0
   ·subst e;rw[B3]at h;rcases Aa0.mp h with h | h
    ·exact old h
    ·rw[Ad8]at h;subst h;exact⟨by omega,by omega,B3⟩
   ·rw[B5 e]at h;exact old h
  ·show 3<=x/\x<(gst F G i).k+1+3/\(if x=(gst F G i).k+3 then 2 else if x∈((gst F G i).h1 (F i-pv F i)).take (G i-pv G i) then(gst F G i).k+3 else(gst F G i).o2 x)=q/\3<=q
   have h:x∈put (gst F G i).i2 ((gst F G i).k+3) (((gst F G i).h1 (F i-pv F i)).take (G i-pv G i)) q:=h
   by_cases e:q=(gst F G i).k+3
   ·subst e;rw[B3]at h;obtain ⟨a,b⟩:=SF.lo x h;exact⟨a,by omega,by rw[if_neg (by omega),if_pos h],by omega⟩
   ·rw[B5 e]at h;obtain ⟨a,b,c,d⟩:=L.l2 q x h;refine⟨a,by omega,?_,d⟩
    rw[if_neg (by omega),if_neg]
    ·exact c
    ·intro z;have hm:x∈(gst F G i).path\/x∈(gst F G i).heap:=by
      have:=List.mem_of_mem_take z
      unfold S.h1 at this;rcases Aa0.mp this with y | y
      ·exact .inl (List.mem_of_mem_take (List.mem_reverse.mp y))
      ·exact .inr y
     have:=(I.inv.bd x hm).2 a
     omega
structure Rg (d t:List (List Nat))(n p:Nat)(a b c:List Nat):Prop where
 rot:∃u w,trn d p=u++w/\w++u=og t 0 p::(a++og t 1 p::(b++og t 2 p::c))
 nd:(og t 0 p::(a++og t 1 p::(b++og t 2 p::c))).Nodup
 ha:∀x∈a,3<=x/\x<n/\og t 2 x=p
 hb:∀x∈b,3<=x/\x<n/\og t 0 x=p
 hc:∀x∈c,3<=x/\x<n/\og t 1 x=p
 ka:∀x,3<=x->x<n->og t 2 x=p->x∈a
 kb:∀x,3<=x->x<n->og t 0 x=p->x∈b
 kc:∀x,3<=x->x<n->og t 1 x=p->x∈c
theorem Bt.ringv (B:Bt F G m f d t){v:Nat}(v3:3<=v)(hv:v<m+3):Rg d t (m+3) (f v) (((gst F G m).i2 v).map f) (((gst F G m).i0 v).map f) (((gst F G m).i1 v).reverse.map f):=by
 have h3:3<=f v:=by have:=B.N.lo (by omega) hv;omega
 have I:=O8 B.R m (Aa7 _)
 have L:=bM2 B.R m (Aa7 _)
 have KN:=bL4 B.R m (Aa7 _)
 have hk:(gst F G m).k=m:=I.k
 have hr:(gst F G m).row v=(gst F G m).o0 v::((gst F G m).i2 v++(gst F G m).o1 v::((gst F G m).i0 v++(gst F G m).o2 v::((gst F G m).i1 v).reverse)):=N6 v3 (by rw[hk];exact hv)
 have e0:TT.og t 0 (f v)=f ((gst F G m).o0 v):=B.og (c:=0) (by omega) v3 hv
 have e1:TT.og t 1 (f v)=f ((gst F G m).o1 v):=B.og (c:=1) (by omega) v3 hv
 have e2:TT.og t 2 (f v)=f ((gst F G m).o2 v):=B.og (c:=2) (by omega) v3 hv
 have em:((gst F G m).row v).map f=TT.og t 0 (f v)::(((gst F G m).i2 v).map f++TT.og t 1 (f v)::(((gst F G m).i0 v).map f++TT.og t 2 (f v)::((gst F G m).i1 v).reverse.map f)):=by
  rw[hr,e0,e1,e2];simp
 have nd:(((gst F G m).row v).map f).Nodup:=aD2 B.N.inj (I.inv.nd v) λx hx=>by have:=I.inv.lt v x hx;omega
 refine⟨?_,?_,?_,?_,?_,λx h3 hx e=>?_,λx h3 hx e=>?_,λx h3 hx e=>?_⟩
 ·have ed:trn d (f v)=U6 (((gst F G m).row v).map f):=by unfold trn;rw[B.dr v hv];rfl
  refine⟨(((gst F G m).row v).map f).drop ((((gst F G m).row v).map f).idxOf (mn (((gst F G m).row v).map f))),(((gst F G m).row v).map f).take ((((gst F G m).row v).map f).idxOf (mn (((gst F G m).row v).map f))),ed,?_⟩;rw[Ad3,em]
 ·rw[<- em];exact nd
 ·intro x hx;obtain ⟨y,hy,rfl⟩:=Aa8.mp hx;obtain ⟨y3,yk,ey,_⟩:=L.l2 v y hy;rw[hk]at yk
  have:=B.N.lo (by omega) yk
  exact⟨by omega,B.N.lt y yk,by rw[B.og (c:=2) (by omega) y3 yk];show f ((gst F G m).o2 y)=_;rw[ey]⟩
 ·intro x hx;obtain ⟨y,hy,rfl⟩:=Aa8.mp hx;obtain ⟨y3,yk,ey⟩:=L.l0 v y hy;rw[hk]at yk
  have:=B.N.lo (by omega) yk
  exact⟨by omega,B.N.lt y yk,by rw[B.og (c:=0) (by omega) y3 yk];show f ((gst F G m).o0 y)=_;rw[ey]⟩
 ·intro x hx;obtain ⟨y,hy,rfl⟩:=Aa8.mp hx;obtain ⟨y3,yk,ey⟩:=L.l1 v y (List.mem_reverse.mp hy);rw[hk]at yk
  have:=B.N.lo (by omega) yk
  exact⟨by omega,B.N.lt y yk,by rw[B.og (c:=1) (by omega) y3 yk];show f ((gst F G m).o1 y)=_;rw[ey]⟩
 ·obtain ⟨y,hy,rfl⟩:=B.N.surj x hx;have y3:3<=y:=by have:=B.N.lo (by omega) hy;omega
  rw[B.og (c:=2) (by omega) y3 hy]at e
  have ho:=(bE8 (c:=2) (s:=gst F G m) (by omega) y3 (by rw[hk];exact hy))
  have hlt:=I.inv.lt y _ ho
  have e':(gst F G m).o2 y=v:=B.N.inj _ _ (by rw[hk]at hlt;exact hlt) hv e
  have:=KN.k2 y y3 (by rw[hk];exact hy) (by omega)
  rw[e']at this;exact Aa8.mpr ⟨y,this,rfl⟩
 ·obtain ⟨y,hy,rfl⟩:=B.N.surj x hx;have y3:3<=y:=by have:=B.N.lo (by omega) hy;omega
  rw[B.og (c:=0) (by omega) y3 hy]at e
  have ho:=(bE8 (c:=0) (s:=gst F G m) (by omega) y3 (by rw[hk];exact hy))
  have hlt:=I.inv.lt y _ ho
  have e':(gst F G m).o0 y=v:=B.N.inj _ _ (by rw[hk]at hlt;exact hlt) hv e
  have:=KN.k0 y y3 (by rw[hk];exact hy)
  rw[e']at this;exact Aa8.mpr ⟨y,this,rfl⟩
 ·obtain ⟨y,hy,rfl⟩:=B.N.surj x hx;have y3:3<=y:=by have:=B.N.lo (by omega) hy;omega
  rw[B.og (c:=1) (by omega) y3 hy]at e
  have ho:=(bE8 (c:=1) (s:=gst F G m) (by omega) y3 (by rw[hk];exact hy))
  have hlt:=I.inv.lt y _ ho
  have e':(gst F G m).o1 y=v:=B.N.inj _ _ (by rw[hk]at hlt;exact hlt) hv e
  have:=KN.k1 y y3 (by rw[hk];exact hy)
  rw[e']at this;exact Aa8.mpr ⟨y,List.mem_reverse.mpr this,rfl⟩
theorem Bt.ring (B:Bt F G m f d t){p:Nat}(h3:3<=p)(hp:p<m+3):∃a b c,Rg d t (m+3) p a b c:=by
 obtain ⟨v,hv,rfl⟩:=B.N.surj p hp;have v3:3<=v:=by have:=B.N.lo (by omega) hv;omega
 exact⟨_,_,_,B.ringv v3 hv⟩
end TT
namespace TT
def rfr (l:List Nat)(x:Nat):List Nat:=l.drop (l.idxOf x)++l.take (l.idxOf x)
theorem aM3 {p s:List Nat}{x:Nat}(h:x∉p):rfr (p++x::s) x=x::(s++p):=by
 have e:(p++x::s).idxOf x=p.length:=by
  rw[List.idxOf_append,if_neg h];simp
 unfold rfr;rw[e,List.drop_left,List.take_left];rfl
theorem cC4 {l u w L:List Nat}{x:Nat}(nd:L.Nodup)(e1:l=u++w)(e2:w++u=L)(hx:x∈L):rfr l x=rfr L x:=by
 subst e1 e2;have nd2:=Aa4.mp nd;rcases Aa0.mp hx with h | h
 ·obtain ⟨p,s,rfl⟩:=Ad5 h;have n1:x∉p:=λz=>(Aa4.mp nd2.1).2.2 x z x (by simp) rfl
  have n2:x∉u:=λz=>nd2.2.2 x h x z rfl
  rw[show u++(p++x::s)=(u++p)++x::s by simp,aM3 (by simp[n1,n2]),show p++x::s++u=p++x::(s++u) by simp,aM3 n1]
  simp
 ·obtain ⟨p,s,rfl⟩:=Ad5 h;have n1:x∉p:=λz=>(Aa4.mp nd2.2.1).2.2 x z x (by simp) rfl
  have n2:x∉w:=λz=>nd2.2.2 x z x h rfl
  rw[show p++x::s++w=p++x::(s++w) by simp,aM3 n1,show w++(p++x::s)=(w++p)++x::s by simp,aM3 (by simp[n1,n2])]
  simp
def isO (t:List (List Nat))(p q:Nat):Bool:=q==og t 0 p||q==og t 1 p||q==og t 2 p
theorem isO_iff {t:List (List Nat)}{p q:Nat}:isO t p q=true↔∃c,c<3/\og t c p=q:=by
 unfold isO;constructor
 ·intro h;simp only[Bool.or_eq_true,beq_iff_eq]at h;rcases h with (h | h) | h
  ·exact⟨0,by omega,h.symm⟩
  ·exact⟨1,by omega,h.symm⟩
  ·exact⟨2,by omega,h.symm⟩
 ·rintro ⟨c,hc,h⟩;rcases (show c=0\/c=1\/c=2 by omega) with rfl | rfl | rfl <;> simp[h]
def met (d t:List (List Nat))(p x:Nat):List Nat:=(rfr (trn d p) x).filter (isO t p)
theorem bP8 {f:Nat->Bool}{l:List Nat}(h:∀x∈l,f x=false):l.filter f=[]:=by
 rw[List.filter_eq_nil_iff];intro x hx;rw[h x hx];simp
theorem Rg.met {d t:List (List Nat)}{n p:Nat}{a b c:List Nat}(R:Rg d t n p a b c){x:Nat} :
  (x∈b->TT.met d t p x=[og t 2 p,og t 0 p,og t 1 p])/\(x∈c->TT.met d t p x=[og t 0 p,og t 1 p,og t 2 p])/\(x∈a->TT.met d t p x=[og t 1 p,og t 2 p,og t 0 p]):=by
 obtain ⟨u,w,e1,e2⟩:=R.rot;have nd:=R.nd;have i0:isO t p (og t 0 p)=true:=isO_iff.mpr ⟨0,by omega,rfl⟩
 have i1:isO t p (og t 1 p)=true:=isO_iff.mpr ⟨1,by omega,rfl⟩
 have i2:isO t p (og t 2 p)=true:=isO_iff.mpr ⟨2,by omega,rfl⟩
 generalize ha0:og t 0 p=o0 at *;generalize ha1:og t 1 p=o1 at *;generalize ha2:og t 2 p=o2 at *;have dis:∀y,y∈a++b++c->y≠o0/\y≠o1/\y≠o2:=by
  intro y hy;simp only[Aa5,Aa4,Aa0,Aa1,not_or]at nd;simp only[Aa0]at hy;obtain ⟨⟨h0a,h01,h0b,h02,h0c⟩,nda,⟨⟨h1b,h12,h1c⟩,ndb,⟨h2c,ndc⟩,hbx⟩,hax⟩:=nd;rcases hy with (hy | hy) | hy
  ·exact⟨λz=>h0a (z▸hy),λz=>hax y hy o1 (.inl rfl) z,λz=>hax y hy o2 (.inr (.inr (.inl rfl))) z⟩
  ·exact⟨λz=>h0b (z▸hy),λz=>h1b (z▸hy),λz=>hbx y hy o2 (.inl rfl) z⟩
  ·exact⟨λz=>h0c (z▸hy),λz=>h1c (z▸hy),λz=>h2c (z▸hy)⟩
 have no:∀y,y∈a++b++c->isO t p y=false:=λy hy=>by
  obtain ⟨h0,h1,h2⟩:=dis y hy;unfold isO;rw[ha0,ha1,ha2]
  simp[h0,h1,h2]
 have fa:∀l:List Nat,(∀y∈l,y∈a++b++c)->l.filter (isO t p)=[]:=λl hl=>bP8 λy hy=>no y (hl y hy)
 have go:∀(P S:List Nat),o0::(a++o1::(b++o2::c))=P++x::S->TT.met d t p x=(x::(S++P)).filter (isO t p):=by
  intro P S e;unfold TT.met;rw[cC4 nd e1 e2 (by rw[e];simp),e,aM3]
  rw[e]at nd;exact λz=>(Aa4.mp nd).2.2 x z x (by simp) rfl
 refine⟨λhx=>?_,λhx=>?_,λhx=>?_⟩
 ·obtain ⟨b1,b2,rfl⟩:=Ad5 hx;rw[go (o0::(a++o1::b1)) (b2++o2::c) (by simp)]
  simp only[List.filter_cons,List.filter_append,Ab6,Ad7,i0,i1,i2,if_true,no x (by simp),fa a (λy hy=>by simp[hy]),fa b1 (λy hy=>by simp[hy]),fa b2 (λy hy=>by simp[hy]),fa c (λy hy=>by simp[hy])]
  simp
 ·obtain ⟨c1,c2,rfl⟩:=Ad5 hx;rw[go (o0::(a++o1::(b++o2::c1))) c2 (by simp)]
  simp only[List.filter_cons,List.filter_append,Ab6,Ad7,i0,i1,i2,if_true,no x (by simp),fa a (λy hy=>by simp[hy]),fa c1 (λy hy=>by simp[hy]),fa c2 (λy hy=>by simp[hy]),fa b (λy hy=>by simp[hy])]
  simp
 ·obtain ⟨a1,a2,rfl⟩:=Ad5 hx;rw[go (o0::a1) (a2++o1::(b++o2::c)) (by simp)]
  simp only[List.filter_cons,List.filter_append,Ab6,Ad7,i0,i1,i2,if_true,no x (by simp),fa c (λy hy=>by simp[hy]),fa a1 (λy hy=>by simp[hy]),fa a2 (λy hy=>by simp[hy]),fa b (λy hy=>by simp[hy])]
  simp
variable {F G:Nat->Nat}{m:Nat}{f:Nat->Nat}{d t:List (List Nat)}
inductive Sn (t:List (List Nat))(c n:Nat):Nat->Nat->Prop
 | zero {q:Nat}:q=c->Sn t c n q 0
 | succ {q k:Nat}:3<=q->q<n->Sn t c n (og t c q) k->Sn t c n q (k+1)
theorem Wy.st {t:List (List Nat)}{c n:Nat}{q:Nat}{l:List Nat}(w:Wy (og t c) q l):(∀x∈l,x<n)->(∃p,l=p++[c])->∃k,Sn t c n q k:=by
 induction w with
 | @corner q h=>
  intro _ ⟨p,e⟩;cases p with
  | nil=>simp at e;exact⟨0,.zero e⟩
  | cons x r=>simp at e
 | @step q l h w ih=>
  intro hl ⟨p,e⟩;cases p with
  | nil=>
   simp at e
   cases w <;> simp at e
  | cons x r=>
   simp at e
   obtain ⟨k,hk⟩:=ih (λx hx=>hl x (by simp[hx])) ⟨r,e.2⟩
   exact⟨k+1,.succ h (hl q (by simp)) hk⟩
theorem Bt.steps (B:Bt F G m f d t){c q:Nat}(hc:c<3)(h3:3<=q)(hq:q<m+3):∃k,Sn t c (m+3) q k:=by
 obtain ⟨t0,t1,t2,w0,w1,w2,e0,e1,e2,nd,lt⟩:=B.ways h3 hq;have h:∀l,(∀x∈l,x∈t0++(t1++t2))->∀x∈q::l,x<m+3:=λl hl x hx=>by
  rcases Aa1.mp hx with rfl | z
  ·exact hq
  ·exact lt x (hl x z)
 rcases (show c=0\/c=1\/c=2 by omega) with rfl | rfl | rfl
 ·exact w0.st (h t0 λx hx=>by simp[hx]) e0
 ·exact w1.st (h t1 λx hx=>by simp[hx]) e1
 ·exact w2.st (h t2 λx hx=>by simp[hx]) e2
end TT
namespace TT
structure Gd (m:Nat)(d t:List (List Nat)):Prop where
 dl:d.length=m+3
 tl:t.length=m
 t3:∀v,v<m->t[v]? = some [og t 0 (v+3),og t 1 (v+3),og t 2 (v+3)]
 ring:∀{p},3<=p->p<m+3->∃a b c,Rg d t (m+3) p a b c
 steps:∀{c q},c<3->3<=q->q<m+3->∃k,Sn t c (m+3) q k
 good:Good (m+3) (trn d)
section
variable {F G f:Nat->Nat}{m:Nat}{d t:List (List Nat)}
theorem Bt.gd (B:Bt F G m f d t):Gd m d t:=by
 refine⟨B.dl,B.tl,λv hv=>?_,λh3 hp=>B.ring h3 hp,λhc h3 hq=>B.steps hc h3 hq,B.good⟩
 obtain ⟨u,hu,e⟩:=B.N.surj (v+3) (by omega)
 have u3:3<=u:=by have:=B.N.lo (by omega) hu;omega
 have h:=B.tr u u3 hu
 rw[e,show v+3-3=v by omega]at h
 unfold TT.og;rw[show v+3-3=v by omega,h]
 rfl
theorem Gd.stepsO (W:Gd m d t){c q:Nat}(hc:c<3)(h3:3<=q)(hq:q<m+3):∃k,Sn t c (m+3) (TT.og t c q) k:=by
 obtain ⟨k,s⟩:=W.steps hc h3 hq;cases s with
 | zero e=>omega
 | succ _ _ s=>exact⟨_,s⟩
theorem Gd.corner (W:Gd m d t){c q:Nat}(hc:c<3)(h3:3<=q)(hq:q<m+3)(h:TT.og t c q<3):TT.og t c q=c:=by
 obtain ⟨k,s⟩:=W.stepsO hc h3 hq;cases s with
 | zero e=>exact e
 | succ h3' _ _=>omega
theorem Gd.second (W:Gd m d t){c p q:Nat}(hc:c<3)(p3:3<=p)(hp:p<m+3)(e:TT.og t c p=q)(q3:3<=q)(hq:q<m+3) :
  p∈trn d q/\∃x z,met d t q p=[x,TT.og t c q,z]:=by
 obtain ⟨a,b,c',R⟩:=W.ring q3 hq;have mem:∀y,y∈TT.og t 0 q::(a++TT.og t 1 q::(b++TT.og t 2 q::c'))->y∈trn d q:=λy hy=>by
  obtain ⟨u,w,e1,e2⟩:=R.rot;rw[<- e2]at hy;rw[e1];exact Aa0.mpr (Aa0.mp hy).symm
 rcases (show c=0\/c=1\/c=2 by omega) with rfl | rfl | rfl
 ·have h:=R.kb p p3 hp e
  exact⟨mem p (by simp[h]),_,_,R.met.1 h⟩
 ·have h:=R.kc p p3 hp e
  exact⟨mem p (by simp[h]),_,_,R.met.2.1 h⟩
 ·have h:=R.ka p p3 hp e
  exact⟨mem p (by simp[h]),_,_,R.met.2.2 h⟩
theorem Gd.out_mem (W:Gd m d t){c q:Nat}(hc:c<3)(h3:3<=q)(hq:q<m+3):TT.og t c q∈trn d q/\TT.og t c q<m+3:=by
 obtain ⟨a,b,c',R⟩:=W.ring h3 hq;obtain ⟨u,w,e1,e2⟩:=R.rot;have hm:TT.og t c q∈trn d q:=by
  have h:TT.og t c q∈w++u:=by
   rw[e2];rcases (show c=0\/c=1\/c=2 by omega) with rfl | rfl | rfl <;> simp
  rw[e1];exact Aa0.mpr (Aa0.mp h).symm
 exact⟨hm,W.good.lt q _ hm⟩
theorem Gd.tie (W:Gd m d t){p q:Nat}(h3:3<=p)(hp:p<m+3)(hq:q∈trn d p):(∃c,c<3/\TT.og t c p=q)\/(3<=q/\q<m+3/\∃c,c<3/\TT.og t c q=p):=by
 obtain ⟨a,b,c,R⟩:=W.ring h3 hp;obtain ⟨u,w,e1,e2⟩:=R.rot;have hm:q∈TT.og t 0 p::(a++TT.og t 1 p::(b++TT.og t 2 p::c)):=by
  rw[<- e2];rw[e1]at hq;exact Aa0.mpr (Aa0.mp hq).symm
 simp only[Aa1,Aa0]at hm;rcases hm with h | h | h | h | h | h
 ·exact .inl ⟨0,by omega,h.symm⟩
 ·exact .inr ⟨(R.ha q h).1,(R.ha q h).2.1,2,by omega,(R.ha q h).2.2⟩
 ·exact .inl ⟨1,by omega,h.symm⟩
 ·exact .inr ⟨(R.hb q h).1,(R.hb q h).2.1,0,by omega,(R.hb q h).2.2⟩
 ·exact .inl ⟨2,by omega,h.symm⟩
 ·exact .inr ⟨(R.hc q h).1,(R.hc q h).2.1,1,by omega,(R.hc q h).2.2⟩
end
end TT
namespace K18
open PySem L2 LV PyProof.Rows
theorem bK6 (l:List Nat):tN l=tI (l.map λ(x:Nat)=>(x:Int)):=by unfold tN tI nI;simp
structure Dw (m:Nat)(dr tr:List (List Nat)):Prop where
 m7:m<=7
 bt:∃F G f,TT.Bt F G m f dr tr
theorem Dw.len {m:Nat}{dr tr:List (List Nat)}(h:Dw m dr tr):dr.length=m+3:=by
 obtain ⟨_,_,_,_,B⟩:=h;exact B.dl
theorem Dw.gd {m:Nat}{dr tr:List (List Nat)}(h:Dw m dr tr):TT.Gd m dr tr:=by
 obtain ⟨_,_,_,_,B⟩:=h;exact B.gd
theorem bH9 {dr:List (List Nat)}{p:Nat}(h:p<dr.length):dr[p]? = some (TT.trn dr p):=by
 unfold TT.trn;rw[Aa2 h];rfl
def pD (x:Int×Int):PyData:=tI [x.1,x.2]
theorem bR7 (x y:Int×Int):PyData.eqv (pD x) (pD y)=decide (x=y):=by
 unfold pD;rw[cL6];refine decide_eq_decide.mpr ?_;constructor
 ·intro h;simp at h;exact Prod.ext h.1 h.2
 ·rintro rfl;rfl
theorem cM8 (x:Int×Int):imm (pD x)=true:=bR2 _
theorem aB8 (ps:List (Int×Int)):J8 (ps.map pD)=true:=Y8 cM8 ps
theorem aL5 (x:Int×Int)(ps:List (Int×Int)):(ps.map pD).any (λz=>PyData.eqv z (pD x))=decide (x∈ps):=by
 induction ps with
 | nil=>rfl
 | cons y ps ih=>
  rw[Ac7,List.any_cons,ih,bR7];by_cases h:y=x
  ·subst h;simp
  ·have:¬x=y:=λz=>h z.symm
   simp[h,this]
theorem cN4 (q:Int)(l:List Nat):(nI l).any (λz=>PyData.eqv z (.int q))=decide (q∈l.map λ(x:Nat)=>(x:Int)):=by
 unfold nI;induction l with
 | nil=>rfl
 | cons y l ih=>
  rw[Ac7,List.any_cons,ih,aB9];by_cases h:(y:Int)=q
  ·subst h;simp
  ·have:¬q=(y:Int):=λz=>h z.symm
   simp[h,this]
theorem aA4 (x:Int×Int):FitN 1 (pD x):=aW2 _
theorem bR6 (ps:List (Int×Int)):Fit (.list (ps.map pD)):=(bW0 (n:=1) λd hd=>by obtain ⟨x,_,rfl⟩:=Aa8.mp hd;exact aA4 x).fit
def td (dr:List (List Nat))(p q:Int):Bool:=(decide (0<=p)&&decide (p<(dr.length:Int)))&&decide (q∈(TT.trn dr p.toNat).map λ(x:Nat)=>(x:Int))
def gp (ps:List (Int×Int))(k:Nat):Int×Int:=ps.getD k (0,0)
theorem bK5 {ps:List (Int×Int)}{k:Nat}(h:k<ps.length):ps[k]? = some (gp ps k):=by
 unfold gp;rw[Aa2 h,Ac0,Aa2 h];rfl
def tb (ps:List (Int×Int))(k:Nat):Bool:=decide (gp ps k∈ps.take k)||decide (((gp ps k).2,(gp ps k).1)∈ps.take k)
def bO4 (ts:List (List Int)):List (List Int):=ts.mergeSort λa b => !HT.W1 b a
theorem Y3 (ts:List (List Int)):(bO4 ts).Perm ts:=List.mergeSort_perm _ _
theorem aE4 (ts:List (List Int)):(bO4 ts).Pairwise K6:=by
 have:=List.pairwise_mergeSort (le:=λa b:List Int => !HT.W1 b a) (λa b d h1 h2=>by
  have:=u5 a b d (by unfold K6;simpa using h1) (by unfold K6;simpa using h2)
  unfold K6 at this;simp[this]) (λa b=>by
  rcases aP5 a b with h | h <;> unfold K6 at h <;> simp[h]) ts
 refine this.imp λh=>?_
 unfold K6;simpa using h
def toL (x:Int×Int):List Int:=[x.1,x.2]
def ofL (l:List Int):Int×Int:=(l.getD 0 0,l.getD 1 0)
def sp (ps:List (Int×Int)):List (Int×Int):=(bO4 (ps.map toL)).map ofL
theorem d0 (ps:List (Int×Int)):(sp ps).Perm ps:=by
 have h:=(Y3 (ps.map toL)).map ofL
 rw[Ae2]at h;have e:ps.map (ofL ∘ toL)=ps:=(List.map_congr_left (g:=id) (λx _=>rfl)).trans (List.map_id _)
 rw[e]at h;exact h
theorem cJ9 (ps:List (Int×Int)):(bO4 (ps.map toL)).map tI=(sp ps).map pD:=by
 unfold sp;rw[Ae2];refine List.map_congr_left λl hl=>?_
 obtain ⟨x,_,rfl⟩:=Aa8.mp ((Y3 _).mem_iff.mp hl);rfl
theorem aK5 {K:PySem.W.Frag}{ρ:List Sl}{t:TA}{ps:List (Int×Int)}(ha:LV.A K false t ρ [.list (ps.map pD)])(h64:ps.length<64) :
  EF K (tCB (λxs H Q=>∃(p:Addr) (ys:List V) (ts:List (List Int)),xs=[.ref p]/\SqL K H p ys/\TupsV K H ys ts/\ys.length<64 /\
   ∀a (q:List Nat),H a=none->q.Perm (List.range ys.length)->(q.map λi=>ts.getD i []).Pairwise K6->Q (.ref a) (upd H a (.lst (q.map λi=>ys.getD i .non)))) t) ρ ((sp ps).map pD):=by
 have e:ps.map pD=(ps.map toL).map tI:=by rw[Ae2];rfl
 rw[e]at ha;rw[<- cJ9];exact bC3 ha (λt ht=>by obtain ⟨x,_,rfl⟩:=Aa8.mp ht;simp[toL]) (by rw[Aa3];exact h64) (Y3 _) (aE4 _)
def ga {α:Type}(g:Nat->List α)(n:Nat):List α:=((List.range n).map g).flatten
theorem M5 {α:Type}(g:Nat->List α)(n:Nat):ga g (n+1)=ga g n++g n:=by
 unfold ga;rw[List.range_succ,Ad2,List.flatten_append];simp
theorem ga_mem {α:Type}{g:Nat->List α}{n:Nat}{x:α}:x∈ga g n↔∃i,i<n/\x∈g i:=by
 unfold ga;rw[List.mem_flatten];constructor
 ·rintro ⟨l,hl,hx⟩;obtain ⟨i,hi,rfl⟩:=Aa8.mp hl;exact⟨i,Ab5.mp hi,hx⟩
 ·rintro ⟨i,hi,hx⟩;exact⟨g i,Aa8.mpr ⟨i,Ab5.mpr hi,rfl⟩,hx⟩
def ga1 (tr:List (List Nat))(v:Nat):List (Int×Int):=(tr.getD v []).map λ(q:Nat)=>(3+(v:Int),(q:Int))
def arr (tr:List (List Nat)):List (Int×Int):=ga (ga1 tr) tr.length
theorem Dw.tl {m:Nat}{dr tr:List (List Nat)}(h:Dw m dr tr):tr.length=m:=by
 obtain ⟨_,_,_,_,B⟩:=h;exact B.tl
theorem Dw.t3 {m:Nat}{dr tr:List (List Nat)}(h:Dw m dr tr){v:Nat}(hv:v<m):∃r,tr[v]? = some r/\r.length=3:=by
 obtain ⟨_,F,G,f,B⟩:=h;obtain ⟨u,hu,e⟩:=B.N.surj (v+3) (by omega)
 have u3:3<=u:=by have:=B.N.lo (by omega) hu;omega
 have:=B.tr u u3 hu
 rw[e]at this;exact⟨_,this,rfl⟩
theorem bK3 {m:Nat}{dr tr:List (List Nat)}(h:Dw m dr tr){i:Nat}(hi:i<=tr.length):(ga (ga1 tr) i).length<=3*i:=by
 induction i with
 | zero=>simp[ga]
 | succ i ih=>
  rw[M5,Ab7]
  have:=ih (by omega)
  have hm:=h.tl
  obtain ⟨r,h1,h2⟩:=h.t3 (v:=i) (by omega)
  have:(ga1 tr i).length=3:=by unfold ga1;rw[Aa3,Ac0,h1];exact h2
  omega
def mn (x:Int×Int):Int×Int:=(min x.1 x.2,max x.1 x.2)
theorem cN1 (ps:List (Int×Int))(k:Nat):tb ps k=decide (mn (gp ps k)∈(ps.map mn).take k):=by
 unfold tb;rw[Bool.eq_iff_iff,Bool.or_eq_true,decide_eq_true_eq,decide_eq_true_eq,decide_eq_true_eq,<- List.map_take,Aa8];obtain ⟨p,q⟩:=gp ps k;constructor
 ·rintro (h | h)
  ·exact⟨_,h,rfl⟩
  ·refine⟨_,h,?_⟩;unfold mn;exact Prod.ext (by simp only;omega) (by simp only;omega)
 ·rintro ⟨⟨a,b⟩,h,e⟩;have e1:min a b=min p q:=congrArg Prod.fst e;have e2:max a b=max p q:=congrArg Prod.snd e;by_cases hc:a=p
  ·have hb:b=q:=by omega
   subst hc;subst hb;exact .inl h
  ·have ha:a=q:=by omega
   have hb:b=p:=by omega
   subst ha;subst hb;exact .inr h
def X8:Nat->List Nat->Bool
 | s,[]=>s==2
 | s,x::l=>if s<2/\x=2*(s+1) then X8 (s+1) l else if x=2*s+1 then X8 s l else false
theorem bF4 {α:Type}[DecidableEq α]{l:List α}(nd:l.Nodup):∀{m:List α},(∀x∈l,x∈m)->l.length<=m.length:=by
 induction l with
 | nil=>intro m _;simp
 | cons a l ih=>
  intro m h;have hn:=Aa5.mp nd;have ha:=h a (by simp)
  have:=ih hn.2 (m:=m.erase a) λx hx=>by
   have hne:x≠a:=λz=>hn.1 (by rw[<- z];exact hx)
   exact(List.mem_erase_of_ne hne).mpr (h x (by simp[hx]))
  rw[List.length_erase_of_mem ha]at this;have hpos:=List.length_pos_of_mem ha
  simp
  omega
def ga2 (os:List (List Int))(v:Nat):List (Int×Int):=(os.getD v []).map λq=>((v:Int)+3,q)
def aL (os:List (List Int)):List (Int×Int):=ga (ga2 os) os.length
def R3 (os:List (List Int)):Prop:=∀r∈os,r.length=3
theorem R3.at {os:List (List Int)}(h:R3 os){v:Nat}(hv:v<os.length):∃a b c,os[v]? = some [a,b,c]/\os.getD v []=[a,b,c]:=by
 have h1:os[v]? = some os[v]:=Aa2 hv
 have h2:=h os[v] (List.getElem_mem hv)
 match e:os[v],h2 with
 | [a,b,c],_=>exact⟨a,b,c,by rw[h1,e],by rw[Ac0,h1,e];rfl⟩
theorem aL_mem {os:List (List Int)}{x:Int×Int}:x∈aL os↔∃v,v<os.length/\∃q,q∈os.getD v []/\x=((v:Int)+3,q):=by
 unfold aL;rw[ga_mem];constructor
 ·rintro ⟨v,hv,hx⟩;obtain ⟨q,hq,rfl⟩:=Aa8.mp hx;exact⟨v,hv,q,hq,rfl⟩
 ·rintro ⟨v,hv,q,hq,rfl⟩;exact⟨v,hv,Aa8.mpr ⟨q,hq,rfl⟩⟩
theorem aA1 {os:List (List Int)}(h:R3 os):∀n,n<=os.length->(ga (ga2 os) n).length=3*n
 | 0,_=>rfl
 | n+1,hn=>by
  rw[M5,Ab7,aA1 h n (by omega)]
  obtain ⟨a,b,c,_,e⟩:=h.at (v:=n) (by omega)
  unfold ga2;rw[Aa3,e];simp;omega
def arB (m:Nat)(dr:List (List Nat))(os:List (List Int)):Bool:=decide (os.length=m)&&((aL os).all (λx=>td dr x.1 x.2)&&(List.range (aL os).length).all λk => !tb (aL os) k)
theorem aN4 {α:Type}:∀{l:List α},(∀k (h:k<l.length),l[k]∉l.take k)->l.Nodup
 | [],_=>List.nodup_nil
 | a::l,h=>by
  refine Aa5.mpr ⟨λhm=>?_,aN4 λk hk hm=>h (k+1) (by simpa using hk) (by simp[hm])⟩
  obtain ⟨k,hk,e⟩:=List.mem_iff_getElem.mp hm;exact h (k+1) (by simpa using hk) (by simp[e])
theorem bH5 {α:Type}{l:List α}(nd:l.Nodup)(k:Nat)(h:k<l.length):l[k]∉l.take k:=λhm=>by
 obtain ⟨j,hj,e⟩:=List.mem_iff_getElem.mp hm;rw[Ad1]at hj;rw[List.getElem_take]at e
 have:=(List.getElem_inj (h₀:=by omega) (h₁:=h) nd).mp e
 omega
theorem bA9 (ps:List (Int×Int)):(∀k,k<ps.length->tb ps k=false)↔(ps.map mn).Nodup:=by
 have ht:∀k (hk:k<ps.length),tb ps k=decide ((ps.map mn)[k]'(by simpa using hk)∈(ps.map mn).take k):=λk hk=>by
  rw[cN1]
  have:(ps.map mn)[k]'(by simpa using hk)=mn (gp ps k):=by
   rw[List.getElem_map]
   have:=bK5 hk
   rw[Aa2 hk]at this;rw[Ab4 this]
  rw[this]
 constructor
 ·intro h;refine aN4 λk hk hm=>?_
  rw[Aa3]at hk
  have:=h k hk
  rw[ht k hk]at this;exact(of_decide_eq_false this) hm
 ·intro nd k hk;rw[ht k hk];exact decide_eq_false (bH5 nd k (by simpa using hk))
structure Ar (m:Nat)(dr:List (List Nat))(os:List (List Int)):Prop where
 r3:R3 os
 len:os.length=m
 td:∀v,v<m->∀q∈os.getD v [],∃y:Nat,q=(y:Int)/\y∈TT.trn dr (v+3)
 nd:((aL os).map mn).Nodup
theorem cT4 {m:Nat}{dr:List (List Nat)}{os:List (List Int)}(h3:R3 os)(h:arB m dr os=true):Ar m dr os:=by
 unfold arB at h;rw[Bool.and_eq_true,Bool.and_eq_true,Ac9,Ac9,decide_eq_true_eq]at h;obtain ⟨h1,h2,h4⟩:=h;refine⟨h3,h1,λv hv q hq=>?_,(bA9 _).mp λk hk=>by simpa using h4 k (Ab5.mpr hk)⟩
 have:=h2 ((v:Int)+3,q) (aL_mem.mpr ⟨v,by omega,q,hq,rfl⟩)
 unfold K18.td at this;simp only[Bool.and_eq_true,decide_eq_true_eq]at this;obtain ⟨y,hy,e⟩:=Aa8.mp this.2;exact⟨y,e.symm,by rw[show((v:Int)+3).toNat=v+3 by omega]at hy;exact hy⟩
theorem cR3 {m:Nat}{dr tr:List (List Nat)}{os:List (List Int)}(dw:Dw m dr tr)(h:Ar m dr os):arB m dr os=true:=by
 unfold arB;rw[Bool.and_eq_true,Bool.and_eq_true,Ac9,Ac9,decide_eq_true_eq];have hl:=dw.len;refine⟨h.len,λx hx=>?_,λk hk=>by simpa using(bA9 _).mpr h.nd k (Ab5.mp hk)⟩
 obtain ⟨v,hv,q,hq,rfl⟩:=aL_mem.mp hx;have hv':v<m:=by rw[<- h.len];exact hv
 obtain ⟨y,rfl,hy⟩:=h.td v hv' q hq;unfold K18.td;simp only[Bool.and_eq_true,decide_eq_true_eq];exact⟨⟨by omega,by omega⟩,Aa8.mpr ⟨y,by rw[show((v:Int)+3).toNat=v+3 by omega];exact hy,rfl⟩⟩
def trI (tr:List (List Nat)):List (List Int):=tr.map λr=>r.map λ(x:Nat)=>(x:Int)
theorem V3 {m:Nat}{d t:List (List Nat)}(B:TT.Gd m d t){v:Nat}(hv:v<m):(trI t).getD v []=[(TT.og t 0 (v+3):Int),(TT.og t 1 (v+3):Int),(TT.og t 2 (v+3):Int)]:=by
 unfold trI;rw[Ac0,Aa9,B.t3 v hv];rfl
theorem aG2 {m:Nat}{d t:List (List Nat)}(B:TT.Gd m d t):R3 (trI t):=λr hr=>by
 obtain ⟨v,hv,e⟩:=List.mem_iff_getElem.mp hr;have hv':v<m:=by rw[<- B.tl];simpa[trI]using hv
 have:=V3 B hv'
 rw[Ac0,Aa2 hv]at this;rw[<- e]
 have:=congrArg List.length this
 simpa using this
theorem N3 {m:Nat}{d t:List (List Nat)}(B:TT.Gd m d t):(trI t).length=m:=by unfold trI;rw[Aa3,B.tl]
theorem aE0 {m:Nat}{d t:List (List Nat)}(B:TT.Gd m d t){c p:Nat}(hc:c<3)(h3:3<=p)(hp:p<m+3):((p:Int),(TT.og t c p:Int))∈aL (trI t):=by
 refine aL_mem.mpr ⟨p-3,by rw[N3 B];omega,(TT.og t c p:Int),?_,by congr 1;omega⟩
 rw[V3 B (by omega),show p-3+3=p by omega]
 rcases (show c=0\/c=1\/c=2 by omega) with e | e | e <;> subst e <;> simp
theorem bU0 {x y:Int×Int}(h:mn x=mn y):x=y\/x=(y.2,y.1):=by
 obtain ⟨a,b⟩:=x;obtain ⟨c,d⟩:=y;have e1:min a b=min c d:=congrArg Prod.fst h;have e2:max a b=max c d:=congrArg Prod.snd h;by_cases hc:a=c
 ·have hb:b=d:=by omega
  subst hc;subst hb;exact .inl rfl
 ·have ha:a=d:=by omega
  have hb:b=c:=by omega
  subst ha;subst hb;exact .inr rfl
theorem cG2 (p q:Int):mn (p,q)=mn (q,p):=by
 unfold mn;exact Prod.ext (by simp only;omega) (by simp only;omega)
theorem cE7 {m:Nat}{d t:List (List Nat)}{os:List (List Int)}(B:TT.Gd m d t)(A:Ar m d os){p q:Nat}(h3:3<=p)(hp:p<m+3)(hq:q∈TT.trn d p):((p:Int),(q:Int))∈aL os\/((q:Int),(p:Int))∈aL os:=by
 refine Classical.byContradiction λhn=>?_
 have built:∀{p q:Nat},3<=p->p<m+3->q∈TT.trn d p->mn ((p:Int),(q:Int))∈(aL (trI t)).map mn:=λ{p q} h3 hp hq=>by
  rcases B.tie h3 hp hq with ⟨c,hc,e⟩ | ⟨q3,hq',c,hc,e⟩
  ·have:=aE0 B hc h3 hp
   rw[e]at this;exact Aa8.mpr ⟨_,this,rfl⟩
  ·have:=aE0 B hc q3 hq'
   rw[e]at this;exact Aa8.mpr ⟨_,this,cG2 _ _⟩
 have nd:(mn ((p:Int),(q:Int))::(aL os).map mn).Nodup:=Aa5.mpr ⟨λhm=>by
  obtain ⟨x,hx,e⟩:=Aa8.mp hm;rcases bU0 e with rfl | rfl
  ·exact hn (.inl hx)
  ·exact hn (.inr hx),A.nd⟩
 have:=bF4 nd (m:=(aL (trI t)).map mn) λx hx=>by
  rcases Aa1.mp hx with rfl | hx
  ·exact built h3 hp hq
  ·obtain ⟨y,hy,rfl⟩:=Aa8.mp hx;obtain ⟨v,hv,q',hq',rfl⟩:=aL_mem.mp hy;have hv':v<m:=by rw[<- A.len];exact hv
   obtain ⟨z,rfl,hz⟩:=A.td v hv' q' hq'
   have:=built (p:=v+3) (q:=z) (by omega) (by omega) hz
   rw[show((v+3:Nat):Int)=(v:Int)+3 by omega]at this
   exact this
 have l1:(aL os).length=3*m:=by unfold aL;rw[aA1 A.r3 _ (Aa7 _),A.len]
 have l2:(aL (trI t)).length=3*m:=by unfold aL;rw[aA1 (aG2 B) _ (Aa7 _),N3 B]
 simp only[List.length_cons,Aa3]at this;omega
theorem bL3 {o0 o1 o2 z:Nat}{a b c:List Nat}(nd:(o0::(a++o1::(b++o2::c))).Nodup)(h:z=o0\/z=o1\/z=o2):z∉a/\z∉b/\z∉c:=by
 simp only[Aa5,Aa4,Aa0,Aa1]at nd;grind
theorem bU3 {o0 o1 o2:Nat}{a b c:List Nat}(nd:(o0::(a++o1::(b++o2::c))).Nodup):o0≠o1/\o0≠o2/\o1≠o2:=by
 simp only[Aa5,Aa4,Aa0,Aa1]at nd;grind
theorem bI6 {m:Nat}{d t:List (List Nat)}(B:TT.Gd m d t){p:Nat}(h3:3<=p)(hp:p<m+3):TT.og t 0 p≠TT.og t 1 p/\TT.og t 0 p≠TT.og t 2 p/\TT.og t 1 p≠TT.og t 2 p:=by
 obtain ⟨a,b,c,R⟩:=B.ring h3 hp;exact bU3 R.nd
theorem bJ7 {m:Nat}{d t:List (List Nat)}(B:TT.Gd m d t){p q c c':Nat}(h3:3<=p)(hp:p<m+3)(q3:3<=q)(hq:q<m+3)(hc:c<3)(hc':c'<3)(e:TT.og t c p=q)(e':TT.og t c' q=p):False:=by
 obtain ⟨a,b,cc,R⟩:=B.ring h3 hp;have ho:q=TT.og t 0 p\/q=TT.og t 1 p\/q=TT.og t 2 p:=by
  rcases (show c=0\/c=1\/c=2 by omega) with z | z | z <;> subst z <;> simp[e]
 have:=bL3 R.nd ho
 rcases (show c'=0\/c'=1\/c'=2 by omega) with z | z | z <;> subst z
 ·exact this.2.1 (R.kb q q3 hq e')
 ·exact this.2.2 (R.kc q q3 hq e')
 ·exact this.1 (R.ka q q3 hq e')
theorem aL3 {m:Nat}{d t:List (List Nat)}(B:TT.Gd m d t):Ar m d (trI t):=by
 refine⟨aG2 B,N3 B,λv hv q hq=>?_,?_⟩
 ·rw[V3 B hv]at hq;simp only[Aa1,Ac2,or_false]at hq;rcases hq with rfl | rfl | rfl
  ·exact⟨_,rfl,(B.out_mem (c:=0) (by omega) (by omega) (by omega)).1⟩
  ·exact⟨_,rfl,(B.out_mem (c:=1) (by omega) (by omega) (by omega)).1⟩
  ·exact⟨_,rfl,(B.out_mem (c:=2) (by omega) (by omega) (by omega)).1⟩
 ·have hmem:∀x∈aL (trI t),∃p c,3<=p/\p<m+3/\c<3/\x=((p:Int),(TT.og t c p:Int)):=λx hx=>by
   obtain ⟨v,hv,q,hq,rfl⟩:=aL_mem.mp hx;have hv':v<m:=by rw[<- N3 B];exact hv
   rw[V3 B hv']at hq;simp only[Aa1,Ac2,or_false]at hq;have ev:(v:Int)+3=((v+3:Nat):Int):=by omega
   rcases hq with rfl | rfl | rfl
   ·exact⟨v+3,0,by omega,by omega,by omega,by rw[ev]⟩
   ·exact⟨v+3,1,by omega,by omega,by omega,by rw[ev]⟩
   ·exact⟨v+3,2,by omega,by omega,by omega,by rw[ev]⟩
  have hnd:∀n,n<=m->(ga (ga2 (trI t)) n).Nodup:=λn=>by
   induction n with
   | zero=>intro _;exact List.nodup_nil
   | succ n ih=>
    intro hn;rw[M5];obtain ⟨n1,n2,n3⟩:=bI6 B (p:=n+3) (by omega) (by omega)
    refine Aa4.mpr ⟨ih (by omega),?_,λx hx y hy e=>?_⟩
    ·unfold ga2;rw[V3 B (by omega)]
     simp
     omega
    ·subst e;obtain ⟨i,hi,hx⟩:=ga_mem.mp hx;obtain ⟨q,_,e1⟩:=Aa8.mp hx;obtain ⟨q',_,e2⟩:=Aa8.mp hy
     have:=congrArg Prod.fst (e1.trans e2.symm)
     simp at this
     omega
  have hnd':(aL (trI t)).Nodup:=by unfold aL;rw[N3 B];exact hnd m (Aa7 _)
  rw[Ac6,Ae0];refine List.Pairwise.imp_of_mem (λ{x y} hx hy hne e=>?_) (Ac6.mp hnd')
  rcases bU0 e with z | z
  ·exact hne z
  ·obtain ⟨p,c,h3,hp,hc,rfl⟩:=hmem x hx;obtain ⟨q,c',q3,hq,hc',rfl⟩:=hmem y hy;have e1:(p:Int)=(TT.og t c' q:Int):=congrArg Prod.fst z;have e2:(TT.og t c p:Int)=(q:Int):=congrArg Prod.snd z;exact bJ7 B h3 hp q3 hq hc hc' (by omega) (by omega)
def tri (os:List (List Int))(p:Nat):List Int:=os.getD (p-3) []
def sec (os:List (List Int))(p q:Nat):Nat:=if(q:Int)∈tri os p then 2*(tri os p).idxOf (q:Int) else 2*(((tri os q).idxOf (p:Int)+1) % 3)+1
def ci (os:List (List Int))(p q:Nat):Option Nat:=if 2<q/\(p:Int)∈tri os q then some ((tri os q).idxOf (p:Int)) else none
def cC3 (os:List (List Int))(p:Nat):Nat:=((tri os p).getD 0 0).toNat
def rest (dr:List (List Nat))(os:List (List Int))(p:Nat):List Nat:=(TT.trn dr p).drop ((TT.trn dr p).idxOf (cC3 os p)+1)++(TT.trn dr p).take ((TT.trn dr p).idxOf (cC3 os p))
def crn (os:List (List Int))(p:Nat):Bool := !(decide ((tri os p).getD 0 0<3) && !decide ((tri os p).getD 0 0=0))&&(!(decide ((tri os p).getD 1 0<3) && !decide ((tri os p).getD 1 0=1)) && !(decide ((tri os p).getD 2 0<3) && !decide ((tri os p).getD 2 0=2)))
def aZ3 (dr:List (List Nat))(os:List (List Int))(p:Nat):Bool:=crn os p&&X8 0 ((rest dr os p).map (sec os p))
structure Tr (m:Nat)(dr:List (List Nat))(os:List (List Int))(p a b c:Nat):Prop where
 e:tri os p=[(a:Int),(b:Int),(c:Int)]
 at_:os[p-3]? = some [(a:Int),(b:Int),(c:Int)]
 ab:a≠b
 ac:a≠c
 bc:b≠c
 ma:a∈TT.trn dr p
 mb:b∈TT.trn dr p
 mc:c∈TT.trn dr p
section
variable {m:Nat}{dr tr:List (List Nat)}{os:List (List Int)}
theorem cW0 {v:Nat}{q:Int}(hv:v<os.length)(hq:q∈os.getD v []):((v:Int)+3,q)∈aL os:=aL_mem.mpr ⟨v,hv,q,hq,rfl⟩
theorem aI6 (A:Ar m dr os){p:Nat}{q:Int}(h3:3<=p)(hp:p<m+3):q∈tri os p↔((p:Int),q)∈aL os:=by
 constructor
 ·intro h
  have:=cW0 (os:=os) (v:=p-3) (by rw[A.len];omega) h
  rw[show((p-3:Nat):Int)+3=(p:Int) by omega]at this
  exact this
 ·intro h;obtain ⟨v,hv,q',hq,e⟩:=aL_mem.mp h;have e1:(p:Int)=(v:Int)+3:=congrArg Prod.fst e;have e2:q=q':=congrArg Prod.snd e;unfold tri;rw[show p-3=v by omega,e2];exact hq
theorem cK5 {α:Type}(g:Nat->List α){v n:Nat}(h:v<n):∃x y,ga g n=x++g v++y:=by
 induction n with
 | zero=>omega
 | succ n ih=>
  by_cases e:v=n
  ·subst e;exact⟨ga g v,[],by rw[M5];simp⟩
  ·obtain ⟨x,y,h⟩:=ih (by omega)
   exact⟨x,y++g n,by rw[M5,h];simp⟩
theorem Ar.trp (A:Ar m dr os){p:Nat}(h3:3<=p)(hp:p<m+3):∃a b c,Tr m dr os p a b c:=by
 obtain ⟨x,y,z,h1,h2⟩:=A.r3.at (v:=p-3) (by rw[A.len];omega)
 have hv:p-3<m:=by omega
 obtain ⟨a,rfl,ha⟩:=A.td _ hv x (by rw[h2];simp)
 obtain ⟨b,rfl,hb⟩:=A.td _ hv y (by rw[h2];simp)
 obtain ⟨c,rfl,hc⟩:=A.td _ hv z (by rw[h2];simp)
 rw[show p-3+3=p by omega]at ha hb hc
 have nd:((ga2 os (p-3)).map mn).Nodup:=by
  obtain ⟨x,y,e⟩:=cK5 (ga2 os) (v:=p-3) (n:=os.length) (by rw[A.len];omega)
  have:=A.nd
  unfold aL at this;rw[e,Ad2,Ad2]at this;exact(Aa4.mp (Aa4.mp this).1).2.1
 unfold ga2 at nd;rw[h2]at nd;simp only[Ac7,List.map_nil,Aa5,Aa1,Ac2,or_false,not_or,not_false_eq_true,List.nodup_nil,and_true]at nd;obtain ⟨⟨n1,n2⟩,n3⟩:=nd;refine⟨a,b,c,h2,h1,λz=>n1 (by rw[z]),λz=>n2 (by rw[z]),λz=>n3 (by rw[z]),ha,hb,hc⟩
theorem cQ1 {a b c:Nat}(ab:a≠b)(ac:a≠c)(bc:b≠c):[(a:Int),(b:Int),(c:Int)].idxOf (a:Int)=0/\[(a:Int),(b:Int),(c:Int)].idxOf (b:Int)=1/\[(a:Int),(b:Int),(c:Int)].idxOf (c:Int)=2:=by
 have h1:¬(a:Int)=(b:Int):=by omega
 have h2:¬(a:Int)=(c:Int):=by omega
 have h3:¬(b:Int)=(c:Int):=by omega
 have b1:((a:Int)==(b:Int))=false:=beq_eq_false_iff_ne.mpr h1
 have b2:((a:Int)==(c:Int))=false:=beq_eq_false_iff_ne.mpr h2
 have b3:((b:Int)==(c:Int))=false:=beq_eq_false_iff_ne.mpr h3
 refine⟨by simp,?_,?_⟩
 ·rw[List.idxOf_cons,b1,List.idxOf_cons_self];rfl
 ·rw[List.idxOf_cons,b2,List.idxOf_cons,b3,List.idxOf_cons_self];rfl
theorem bY3 (B:TT.Gd m dr tr)(A:Ar m dr os){p q:Nat}(h3:3<=p)(hp:p<m+3)(hq:q∈TT.trn dr p):((q:Int)∈tri os p/\¬(2<q/\(p:Int)∈tri os q))\/((q:Int)∉tri os p/\3<=q/\q<m+3/\(p:Int)∈tri os q):=by
 have hql:=B.good.lt p q hq
 have hne:p≠q:=λz=>B.good.self p (by rw[<- z]at hq;exact hq)
 by_cases h:(q:Int)∈tri os p
 ·refine .inl ⟨h,λ⟨q2,h'⟩=>?_⟩
  have h1:=(aI6 A h3 hp).mp h
  have h2:=(aI6 A (by omega) hql).mp h'
  have nd:=A.nd
  rw[Ac6,Ae0]at nd
  have:∀{l:List (Int×Int)} {x y:Int×Int},l.Pairwise (λa b=>mn a≠mn b)->x∈l->y∈l->x≠y->mn x≠mn y:=λ{l x y} hl hx hy hxy=>by
   induction hl with
   | nil=>cases hx
   | cons h _ ih=>
    rcases Aa1.mp hx with ex | hx' <;> rcases Aa1.mp hy with ey | hy'
    ·exact absurd (ex.trans ey.symm) hxy
    ·rw[ex];exact h _ hy'
    ·rw[ey];exact λe=>h _ hx' e.symm
    ·exact ih hx' hy'
  exact this nd h1 h2 (λe=>hne (by have:=congrArg Prod.fst e;simp at this;omega)) (cG2 _ _)
 ·refine .inr ⟨h,?_⟩;rcases cE7 B A h3 hp hq with z | z
  ·exact absurd ((aI6 A h3 hp).mpr z) h
  ·obtain ⟨v,hv,q',_,e⟩:=aL_mem.mp z;have e1:(q:Int)=(v:Int)+3:=congrArg Prod.fst e;exact⟨by omega,hql,(aI6 A (by omega) hql).mpr z⟩
theorem Tr.first {p a b c:Nat}(T:Tr m dr os p a b c):cC3 os p=a:=by unfold cC3;rw[T.e];simp
theorem Tr.mem {p a b c q:Nat}(T:Tr m dr os p a b c):(q:Int)∈tri os p↔q=a\/q=b\/q=c:=by
 rw[T.e];simp only[Aa1,Ac2,or_false];omega
theorem Tr.sec {p a b c:Nat}(T:Tr m dr os p a b c):sec os p a=0/\sec os p b=2/\sec os p c=4:=by
 obtain ⟨i0,i1,i2⟩:=cQ1 T.ab T.ac T.bc;unfold K18.sec;rw[if_pos (T.mem.mpr (.inl rfl)),if_pos (T.mem.mpr (.inr (.inl rfl))),if_pos (T.mem.mpr (.inr (.inr rfl))),T.e,i0,i1,i2];exact⟨rfl,rfl,rfl⟩
theorem aB7 {p q:Nat}(h:(q:Int)∉tri os p):sec os p q=2*(((tri os q).idxOf (p:Int)+1) % 3)+1:=by unfold sec;rw[if_neg h]
theorem bA6 {p a b c q:Nat}(T:Tr m dr os p a b c):(sec os p q=0↔q=a)/\(sec os p q=2↔q=b)/\(sec os p q=4↔q=c):=by
 obtain ⟨s0,s1,s2⟩:=T.sec;have ab:=T.ab;have ac:=T.ac;have bc:=T.bc;by_cases h:(q:Int)∈tri os p
 ·rcases T.mem.mp h with rfl | rfl | rfl
  ·rw[s0];omega
  ·rw[s1];omega
  ·rw[s2];omega
 ·have h':¬(q=a\/q=b\/q=c):=λz=>h (T.mem.mpr z)
  rw[aB7 h];omega
theorem bV6 (B:TT.Gd m dr tr)(A:Ar m dr os){p q s a b c:Nat}(T:Tr m dr os p a b c)(h3:3<=p)(hp:p<m+3)(hq:q∈TT.trn dr p)(hs:s<=2):sec os p q=2*s+1↔ci os p q=some ((s+2) % 3):=by
 unfold ci;rcases bY3 B A h3 hp hq with ⟨h,hn⟩ | ⟨h,q3,hql,hm⟩
 ·rw[if_neg hn];obtain ⟨s0,s1,s2⟩:=T.sec;constructor
  ·intro e;rcases T.mem.mp h with rfl | rfl | rfl <;> omega
  ·intro e;cases e
 ·rw[if_pos ⟨by omega,hm⟩,aB7 h,Option.some.injEq]
  obtain ⟨x,y,z,T'⟩:=A.trp q3 hql;have hi:(tri os q).idxOf (p:Int)<3:=by
   have:=Ac4 hm
   rw[T'.e]at this ⊢;simpa using this
  omega
theorem bQ5 {p a b c:Nat}(T:Tr m dr os p a b c):∃u w,TT.trn dr p=u++a::w/\a∉u/\rest dr os p=w++u:=by
 have hi:(TT.trn dr p).idxOf a<(TT.trn dr p).length:=Ac4 T.ma
 have e:TT.trn dr p=(TT.trn dr p).take ((TT.trn dr p).idxOf a)++a::(TT.trn dr p).drop ((TT.trn dr p).idxOf a+1):=by
  have h1:=Ad3 ((TT.trn dr p).idxOf a) (TT.trn dr p)
  rw[List.drop_eq_getElem_cons hi,List.getElem_idxOf hi]at h1;exact h1.symm
 refine⟨_,_,e,λhm=>?_,by unfold rest;rw[T.first]⟩
 obtain ⟨j,hj,ej⟩:=List.mem_iff_getElem.mp hm;rw[Ad1]at hj;rw[List.getElem_take]at ej;have h0:j<(TT.trn dr p).findIdx (· == a):=by have:=Ab8 hj (Nat.min_le_left _ _);exact this
 have:=List.not_of_lt_findIdx h0
 simp[ej]at this
end
section
variable {m:Nat}{dr tr:List (List Nat)}{os:List (List Int)}
theorem bN5 {p a b c:Nat}(T:Tr m dr os p a b c){u w:List Nat}(e:TT.trn dr p=u++a::w)(ha:a∉u):rest dr os p=w++u:=by
 have hi:(u++a::w).idxOf a=u.length:=by rw[List.idxOf_append,if_neg ha,List.idxOf_cons_self];omega
 unfold rest;rw[T.first,e,hi]
 simp
theorem bV7 {p a b c q:Nat}(T:Tr m dr os p a b c):q∈rest dr os p->q∈TT.trn dr p:=λh=>by
 obtain ⟨u,w,e,_,er⟩:=bQ5 T;rw[er]at h;rw[e];rcases Aa0.mp h with h | h
 ·simp[h]
 ·simp[h]
theorem aC5 {g:Nat->Nat}{s:Nat}{r:List Nat}:∀{l:List Nat},(∀x∈l,g x=2*s+1)->X8 s (l.map g++r)=X8 s r
 | [],_=>rfl
 | x::l,h=>by
  have e:=h x (by simp)
  rw[Ac7,Ab6]
  conv=>lhs;unfold X8
  rw[e,if_neg (by omega),if_pos rfl]
  exact aC5 (l:=l) λy hy=>h y (Ad4 _ hy)
theorem bK9 {s:Nat}{r:List Nat}(h:s<2):X8 s (2*(s+1)::r)=X8 (s+1) r:=by
 conv=>lhs;unfold X8
 rw[if_pos ⟨h,rfl⟩]
theorem aF7 {x:Nat}{p:Nat}{c:Nat}(B:TT.Gd m dr tr)(h3:3<=x)(hx:x<m+3)(hc:c<3)(e:TT.og tr c x=p):(tri (trI tr) x).idxOf (p:Int)=c:=by
 have ht:tri (trI tr) x=[(TT.og tr 0 x:Int),(TT.og tr 1 x:Int),(TT.og tr 2 x:Int)]:=by
  unfold tri;rw[V3 B (by omega),show x-3+3=x by omega]
 obtain ⟨n1,n2,n3⟩:=bI6 B h3 hx;obtain ⟨i0,i1,i2⟩:=cQ1 n1 n2 n3;rw[ht,<- e];rcases (show c=0\/c=1\/c=2 by omega) with z | z | z <;> subst z
 ·exact i0
 ·exact i1
 ·exact i2
theorem bO1 (B:TT.Gd m dr tr){p:Nat}(h3:3<=p)(hp:p<m+3):aZ3 dr (trI tr) p=true:=by
 have A:=aL3 B
 obtain ⟨a,b,c,T⟩:=A.trp h3 hp;have ht:tri (trI tr) p=[(TT.og tr 0 p:Int),(TT.og tr 1 p:Int),(TT.og tr 2 p:Int)]:=by
  unfold tri;rw[V3 B (by omega),show p-3+3=p by omega]
 have te:=T.e
 rw[ht]at te;simp only[List.cons.injEq,and_true]at te;obtain ⟨ea,eb,ec⟩:=te;have ea:TT.og tr 0 p=a:=by omega
 have eb:TT.og tr 1 p=b:=by omega
 have ec:TT.og tr 2 p=c:=by omega
 obtain ⟨x,y,z,R⟩:=B.ring h3 hp;obtain ⟨u,w,e1,e2⟩:=R.rot;have nd:=R.nd;rw[ea,eb,ec]at nd e2;unfold aZ3;rw[Bool.and_eq_true];constructor
 ·unfold crn;rw[ht];have h0:=B.corner (c:=0) (by omega) h3 hp
  have h1:=B.corner (c:=1) (by omega) h3 hp
  have h2:=B.corner (c:=2) (by omega) h3 hp
  have g:∀c:Nat,(TT.og tr c p<3->TT.og tr c p=c)->(!(decide ((TT.og tr c p:Int)<3) && !decide ((TT.og tr c p:Int)=(c:Int))))=true:=λc h=>by
   by_cases hl:TT.og tr c p<3
   ·have:=h hl
    have e:decide ((TT.og tr c p:Int)=(c:Int))=true:=decide_eq_true (by omega)
    rw[e];simp
   ·have e:decide ((TT.og tr c p:Int)<3)=false:=decide_eq_false (by omega)
    rw[e];rfl
  have g0:=g 0 h0
  have g1:=g 1 h1
  have g2:=g 2 h2
  show(!(decide ((TT.og tr 0 p:Int)<3) && !decide ((TT.og tr 0 p:Int)=0))&&(!(decide ((TT.og tr 1 p:Int)<3) && !decide ((TT.og tr 1 p:Int)=1)) && !(decide ((TT.og tr 2 p:Int)<3) && !decide ((TT.og tr 2 p:Int)=2))))=true
  rw[show(!(decide ((TT.og tr 0 p:Int)<3) && !decide ((TT.og tr 0 p:Int)=0)))=true from g0,show(!(decide ((TT.og tr 1 p:Int)<3) && !decide ((TT.og tr 1 p:Int)=1)))=true from g1,show(!(decide ((TT.og tr 2 p:Int)<3) && !decide ((TT.og tr 2 p:Int)=2)))=true from g2]
  rfl
 ·have hr:rest dr (trI tr) p=x++b::(y++c::z):=by
   cases w with
   | nil=>
    have e2':u=a::(x++b::(y++c::z)):=e2
    have:=bN5 T (u:=[]) (w:=x++b::(y++c::z)) (by rw[e1,e2'];simp) (by simp)
    rw[this];simp
   | cons w0 w=>
    have e3:w0=a/\w++u=x++b::(y++c::z):=by
     rw[Ab6]at e2;exact⟨(List.cons.inj e2).1,(List.cons.inj e2).2⟩
    obtain ⟨rfl,e3⟩:=e3;have hau:w0∉u:=λhm=>by
     have:=(Aa5.mp nd).1
     rw[<- e3]at this;exact this (Ac1 _ hm)
    rw[bN5 T e1 hau,e3]
  obtain ⟨s0,s1,s2⟩:=T.sec;have no:∀q,(q∈x\/q∈y\/q∈z)->(q:Int)∉tri (trI tr) p:=λq hq hm=>by
   have:=bL3 nd (T.mem.mp hm)
   rcases hq with h | h | h
   ·exact this.1 h
   ·exact this.2.1 h
   ·exact this.2.2 h
  rw[hr,Ad2,Ac7,Ad2,Ac7,s1,s2];rw[aC5 (s:=0) λq hq=>by
   obtain ⟨q3,ql,e⟩:=R.ha q hq;rw[aB7 (no q (.inl hq)),aF7 B q3 ql (by omega) e]]
  rw[show(2:Nat)=2*(0+1) by rfl,bK9 (by omega)]
  rw[aC5 (s:=0+1) λq hq=>by
   obtain ⟨q3,ql,e⟩:=R.hb q hq;rw[aB7 (no q (.inr (.inl hq))),aF7 B q3 ql (by omega) e]]
  rw[show(4:Nat)=2*(0+1+1) by rfl,bK9 (by omega)]
  have:=aC5 (g:=sec (trI tr) p) (s:=0+1+1) (r:=[]) (l:=z) λq hq=>by
   obtain ⟨q3,ql,e⟩:=R.hc q hq;rw[aB7 (no q (.inr (.inr hq))),aF7 B q3 ql (by omega) e]
  rw[List.append_nil]at this;rw[this];rfl
end
def isO (m:Nat)(dr:List (List Nat))(os:List (List Int)):Bool:=arB m dr os&&(List.range m).all λv=>aZ3 dr os (v+3)
theorem bP9 {m:Nat}{dr tr tr0:List (List Nat)}(dw:Dw m dr tr0)(B:TT.Gd m dr tr):isO m dr (trI tr)=true:=by
 unfold isO;rw[cR3 dw (aL3 B),Bool.true_and,Ac9];intro v hv;exact bO1 B (by omega) (by have:=Ab5.mp hv;omega)
theorem sc_begun_with:D7 ["ring", "first", "at"] ["ring", "first"] (A9 P0):=⟨rfl,rfl,rfl,by decide +kernel,rfl,by decide +kernel,by decide +kernel⟩
theorem sc_arrows_of:D7 ["outs", "pairs", "k", "triple"] ["outs"] (A9 Q6):=⟨rfl,rfl,rfl,by decide +kernel,rfl,by decide +kernel,by decide +kernel⟩
theorem aU7 (l:List Nat)(k:Nat):(nI l).drop k=nI (l.drop k):=by simp[nI]
theorem bK8 (l:List Nat)(k:Nat):(nI l).take k=nI (l.take k):=by simp[nI]
def cH8 (ds:List PyData)(d:PyData):Prop:=∃(l:List Nat) (x:Nat),x∈l/\l.length<=10000/\ds=[tN l,.int (x:Int)]/\d=tN (l.drop (l.idxOf x)++l.take (l.idxOf x))
def cH6 (ds:List PyData)(d:PyData):Prop:=∃os:List (List Int),R3 os/\os.length<=20/\ds=[.tuple (os.map tI)]/\d=.tuple ((sp (aL os)).map pD)
def cH4 (ds:List PyData)(d:PyData):Prop:=∃(m:Nat) (dr tr:List (List Nat)) (os:List (List Int)),Dw m dr tr/\R3 os/\os.length<=20/\ds=[.tuple (dr.map tN),.tuple (os.map tI)]/\d=.bool (isO m dr os)
def fP (k:Int):PyData->Option PyData
 | .int q=>some (pD (k+3,q))
 | _=>none
theorem cO3 (k:Int)(l:List Int):(l.map PyData.int).filterMap (fP k)=(l.map λq=>(k+3,q)).map pD:=by
 rw[List.filterMap_map,Ae2,<- List.filterMap_eq_map];exact U0 λx _=>rfl
theorem cU8 (q:Int)(l:List Int):(l.map PyData.int).any (λz=>PyData.eqv z (.int q))=decide (q∈l):=by
 induction l with
 | nil=>rfl
 | cons y l ih=>
  rw[Ac7,List.any_cons,ih,aB9];by_cases h:y=q
  ·subst h;simp
  ·have:¬q=y:=λz=>h z.symm
   simp[h,this]
section
variable {P:Program}{w:World}{K:PySem.W.Frag}{mg:Str->Option Value}{base:Heap}{a:Ad}
theorem aO2 (T:Tx K mg a):G3 P w K mg base CX0 1 a.d9 a.Z5 ["ring", "first"] (spV K cH8):=by
 refine T.aC0.ok sc_begun_with (X3 λds d ⟨_,_,_,_,e,_⟩=>by rw[e];rfl) (λcdv A outer s H vs Q E hr h=>?_)
 obtain ⟨ds,S,d,hS,r,⟨l,x,hx,hl,rfl,rfl⟩,q⟩:=h;refine⟨_,(A5 (B6 (i:=2) sc_begun_with.nd rfl (Or.inl rfl) (N4 PySem.F.plainAttrs_tuple PySem.F.slot_tuple_index PySem.F.type_tuple_index (aQ1 K) (pv 0) (A0 (pv 1) A3)))
   (A8 (C9 (B2 (bV4 K) (V4 (cV8 K) (pv 0) (W4 (pv 2)) t5) (V4 (cV8 K) (pv 0) t5 (W4 (pv 2))))))),M1 hS r ?_ q⟩
 have hidx:l.idxOf x<l.length:=Ac4 hx
 refine B1 (L8 (d:=.int (l.idxOf x:Nat)) ?_ ?_)
 ·have h:=bA7 (K:=K) (m:=true) (ρ:=sl0 ["ring", "first", "at"].length [tI (l.map λ(x:Nat)=>(x:Int)),.int (x:Int)]) (ta:=D9 0) (tb:=D9 1) (k:=(x:Int)) (A2 (i:=0) rfl) (A2 (i:=1) rfl) (Aa8.mpr ⟨x,hx,rfl⟩)
  rw[aB2 x l]at h;rw[bK6];exact h
 refine L9 (cK6 (cI3 (ds:=nI l) (A2 rfl) (m8 (A2 rfl)) aG1 (E7 l)) (cI3 (ds:=nI l) (A2 rfl) aG1 (m8 (A2 rfl)) (E7 l)) (P6 _ _ (E7 l)) (P6 _ _ (E7 l)) ?_ ?_) ?_
 ·rw[aF2 (by rw[D3];omega),aU7]
  intro z
  have:=congrArg List.length z
  rw[D3,List.length_drop]at this;simp at this;omega
 ·rw[aF2 (by rw[D3];omega),aJ5 (by rw[D3];omega),List.length_drop,Ad1,D3];unfold PySem.sizeLine;omega
 ·show PyData.tuple _=tN _
  rw[aF2 (by rw[D3];omega),aJ5 (by rw[D3];omega),aU7,bK8,<- y2]
  rfl
theorem cV2 (T:Tx K mg a):G3 P w K mg base CX0 1 a.p5 a.n9 ["outs"] (spV K cH6):=by
 refine T.W3.ok sc_arrows_of (X3 λds d ⟨_,_,_,e,_⟩=>by rw[e];rfl) (λcdv A outer s H vs Q E hr h=>?_)
 obtain ⟨ds,S,d,hS,r,⟨os,r3,hl,rfl,rfl⟩,q⟩:=h;obtain ⟨t_CORNERS,J7⟩:=T.J7;refine⟨_,(A5 (B6 (i:=1) sc_arrows_of.nd rfl (Or.inl rfl) (C6 A3))
   (A5 (L7 PassesOwn.never rfl (bY8 K rfl T.T9 (A0 (pv 0) A3)) (p8 (n:=2) rfl (E8 (B4 (i:=2) sc_arrows_of.nd rfl (Or.inr rfl)) (E8 (B4 (i:=3) sc_arrows_of.nd rfl (Or.inl rfl)) W9))) (A8 (H9 (N4 Ab1 PySem.F.slot_list_extend PySem.F.type_list_extend bO8 (pv 1) (A0 (j9 (T:=["q"]) (N':=["q", "k"]) (is:=[2]) rfl (.of rfl rfl rfl (by exact⟨rfl,trivial⟩) rfl rfl rfl (by exact⟨⟨_,rfl,by first | exact .inl rfl | exact .inr rfl,by first | exact .inl rfl | exact .inr rfl⟩,trivial⟩)) (X7 (pv 3)) (S0 (by decide)) λ_ _ _ _=>⟨(B4 (i:=0) (by decide +kernel:(["q", "k"]:List Str).Nodup) rfl (Or.inl rfl)),V5,(G0 (A0 (B2 D1 (pv 1) (aT8 (v:=.int 3) rfl J7 ⟨t_CORNERS,rfl⟩)) (A0 (pv 0) A3)))⟩) A3)))))
   (A8 (C9 (M0 (bW1 K) (by rfl) T.M6 boot_tuple (A0 (C3 (j8 K) (by rfl) T.R8 boot_sorted (A0 (pv 1) A3)) A3)))))),M1 hS r ?_ q⟩
 refine B1 (K2 (J4 A7) ?_ (show 1<4 by decide))
 refine B1 (P4 (cD5 (ds:=os.map tI) (A1 (A2 rfl) A7)) (λi ρ=>∃x2 x3,(x2.nb=true/\x3.nb=true)/\ρ=[.val (.tuple (os.map tI)),.own ((ga (ga2 os) i).map pD),x2,x3]) ⟨.no,.no,⟨rfl,rfl⟩,rfl⟩ ?_ ?_)
 ·rintro i d _ hd ⟨x2,x3,⟨b2,b3⟩,rfl⟩;obtain ⟨y,hy,rfl⟩:=bF1 hd;rw[Aa9]at hy;obtain ⟨row,h1,rfl⟩:=Option.map_eq_some_iff.mp hy;have hi:i<os.length:=(Ab0.mp h1).1;have eg:os.getD i []=row:=by rw[Ac0,h1];rfl
  have hrl:row.length=3:=r3 _ (List.mem_of_getElem? h1)
  have hal:=aA1 r3 i (by omega)
  refine⟨_,aG9 (K3 B9 (K3 B9 r9)),?_⟩;show W K _ [.val (.tuple (os.map tI)),.own ((ga (ga2 os) i).map pD),.val (.int (i:Int)),.val (tI row)] _;have cm:=T7 (K:=K) (m:=true) (ρ:=[.val (.tuple (os.map tI)),.own ((ga (ga2 os) i).map pD),.val (.int (i:Int)),.val (tI row)]) (n:=1) (is:=[2]) (g:=N2 0) (tt:=aV9) (te:=aH5 (E1 (tOp (rI0 λi j=>.int (i+j)) (D9 1) (tC (.int 3))) (E1 (D9 0) S6))) (fP (i:Int)) (v9 (ds:=row.map PyData.int) (A2 (i:=3) rfl)) (by rw[Aa3];unfold PySem.sizeLine;omega) (λd hd=>by
   obtain ⟨x,hx,rfl⟩:=Aa8.mp hd;exact⟨_,B9,aK7,N5 (A1 (K5 (g:=λi j=>i+j) (A2 (i:=1) rfl) (A6 (i:=3))) (A1 (A2 (i:=0) rfl) A7))⟩)
  rw[cO3]at cm;refine bO5 rfl cm ?_ ⟨.val (.int (i:Int)),.val (tI row),⟨rfl,rfl⟩,?_⟩
  ·simp only[Aa3];unfold PySem.sizeLine;omega
  ·rw[M5,Ad2];unfold ga2;rw[eg];rfl
 rintro _ ⟨x2,x3,⟨b2,b3⟩,rfl⟩;rw[bN0,Aa3];have hal:=aA1 r3 os.length (Aa7 _);exact L9 (U9 (A1 (EF.e' (aK5 (ps:=aL os) (A1 (G9 rfl) A7) (by unfold aL;omega))) A7) (aB8 _)) rfl
end
theorem aC6:D7 ["_law_outs", "_law_place", "_law_other"] ["_law_outs", "_law_place", "_law_other"] (A9 J6):=⟨rfl,rfl,rfl,by decide +kernel,rfl,by decide +kernel,by decide +kernel⟩
theorem sc__law_round_right:D7 ["_law_drawing", "_law_outs", "_law_place", "_law_triple", "_law_turn", "_law_at", "_law_met", "_law_other"] ["_law_drawing", "_law_outs", "_law_place"] (A9 G1):=⟨rfl,rfl,rfl,by decide +kernel,rfl,by decide +kernel,by decide +kernel⟩
def ciD (os:List (List Int))(p q:Nat):PyData:=match ci os p q with
 | some c=>.int (c:Int)
 | none=>.none
def cG7 (ds:List PyData)(d:PyData):Prop:=∃(os:List (List Int)) (p q:Nat),R3 os/\(2<q->os[q-3]? = some (tri os q))/\ds=[.tuple (os.map tI),.int (p:Int),.int (q:Int)]/\d=ciD os p q
def cR1 (ds:List PyData)(d:PyData):Prop:=∃(m:Nat) (dr tr:List (List Nat)) (os:List (List Int)) (p:Nat),Dw m dr tr/\Ar m dr os/\3<=p/\p<m+3/\ds=[.tuple (dr.map tN),.tuple (os.map tI),.int (p:Int)]/\d=.bool (X8 0 ((rest dr os p).map (sec os p)))
theorem cD4 (os:List (List Int))(p q:Nat):Fit (ciD os p q):=by
 unfold ciD;cases ci os p q with
 | none=>exact bW9
 | some c=>exact aJ0 _
theorem cC0 (os:List (List Int))(p q s:Nat):PyData.eqv (ciD os p q) (.int (s:Int))=decide (ci os p q=some s):=by
 unfold ciD;cases ci os p q with
 | none=>simp[PyData.eqv]
 | some c=>
  show PyData.eqv (.int (c:Int)) (.int (s:Int))=_
  rw[aB9];exact decide_eq_decide.mpr ⟨λh=>by congr 1;omega,λh=>by have:=Ab4 h;omega⟩
theorem bV0 (s:Nat):X8 s []=(s==2):=by unfold X8;rfl
theorem bQ1 (s x:Nat)(l:List Nat):X8 s (x::l)=if s<2/\x=2*(s+1) then X8 (s+1) l else if x=2*s+1 then X8 s l else false:=by
 conv=>lhs;unfold X8
section
variable {P:Program}{w:World}{K:PySem.W.Frag}{mg:Str->Option Value}{base:Heap}{a:Ad}
theorem cT5 (T:Tx K mg a):G3 P w K mg base CX0 1 a.T2 a.T0 ["_law_outs", "_law_place", "_law_other"] (spV K cG7):=by
 refine T.Y5.ok aC6 (X3 λds d ⟨_,_,_,_,_,e,_⟩=>by rw[e];rfl) (λcdv A outer s H vs Q E hr h=>?_)
 obtain ⟨ds,S,d,hS,r,⟨os,p,q',r3,hq,rfl,rfl⟩,q⟩:=h;refine⟨_,(A5 (R7 (PW.pt (y6 (C1 aG6 (pv 2) A4 (E2 _)) (aC9 (C1 (aN7 K hr) (pv 1) (B7 (ixK K) (pv 0) (B2 U3 (pv 2) A4) (λ_ _=>rfl)) rfl)))) (A8 (C9 (N4 PySem.F.plainAttrs_tuple PySem.F.slot_tuple_index PySem.F.type_tuple_index (aQ1 K) (B7 (ixK K) (pv 0) (B2 U3 (pv 2) A4) (λ_ _=>rfl)) (A0 (pv 1) A3)))) K4)
   (A8 (C9 cO4))),M1 hS r ?_ q⟩
 have ht:=aM9 (K:=K) (ρ:=sl0 ["_law_outs", "_law_place", "_law_other"].length [.tuple (os.map tI),.int (p:Int),.int (q':Int)]) (b:=decide ((p:Int)∈tri os q')) (C7 (aB4 (g:=λi j=>decide (i>j)) (A2 (i:=2) rfl) (A6 (i:=2)))) (λh=>by
  have h:(q':Int)>2:=of_decide_eq_true h
  have e:=C7 (bA8 (K:=K) (m:=false) (ρ:=sl0 ["_law_outs", "_law_place", "_law_other"].length [.tuple (os.map tI),.int (p:Int),.int (q':Int)]) (ds:=(tri os q').map PyData.int) (A2 (i:=1) rfl) (G5 (d':=tI (tri os q')) (ds:=os.map tI) (A2 (i:=0) rfl) (K5 (g:=λi j=>i-j) (A2 (i:=2) rfl) (A6 (i:=3))) rfl (K0 (q'-3) (by omega) (by rw[Aa9,hq (by omega)];rfl))) rfl (aJ0 _) (aW2 _).fit)
  rw[cU8]at e;exact e)
 refine B1 (m6 ht (λh=>?_) (λh=>N1 ?_))
 ·have h:=Bool.and_eq_true _ _▸h
  have h1:(q':Int)>2:=of_decide_eq_true h.1
  have h2:(p:Int)∈tri os q':=of_decide_eq_true h.2
  refine L9 (bA7 (l:=tri os q') (G5 (d':=tI (tri os q')) (ds:=os.map tI) (A2 rfl) (K5 (A2 rfl) A6) rfl (K0 (q'-3) (by omega) (by rw[Aa9,hq (by omega)];rfl))) (A2 rfl) h2) ?_
  show PyData.int _=ciD os p q'
  unfold ciD ci;rw[if_pos ⟨by omega,h2⟩]
 ·refine L9 cV4 ?_;show PyData.none=ciD os p q';unfold ciD ci;rw[if_neg];rintro ⟨h1,h2⟩;have e1:decide ((q':Int)>2)=true:=decide_eq_true (by omega)
  have e2:decide ((p:Int)∈tri os q')=true:=decide_eq_true h2
  rw[e1,e2]at h;cases h
theorem cR4 (T:Tx K mg a):G3 P w K mg base CX0 2 a.Q2 a.Q0 ["_law_drawing", "_law_outs", "_law_place"] (spV K cR1):=by
 have G__law_colour_in:G3 P w K mg base CX0 1 _ _ _ _:=cT5 T
 refine T.V9.ok sc__law_round_right (X3 λds d ⟨_,_,_,_,_,_,_,_,_,e,_⟩=>by rw[e];rfl) (λcdv A outer s H vs Q E hr h=>?_)
 obtain ⟨ds,S,d,hS,r,⟨m,dr,tr,os,p,dw,AR,h3,hp,rfl,rfl⟩,q⟩:=h;refine⟨_,(A5 (B6 (i:=3) sc__law_round_right.nd rfl (Or.inl rfl) (B7 (ixK K) (pv 1) (B2 U3 (pv 2) A4) (λ_ _=>rfl)))
   (A5 (B6 (i:=4) sc__law_round_right.nd rfl (Or.inl rfl) (M0 (cS3 K) (by rfl) T.q9 boot_list (A0 (B7 (ixK K) (pv 0) (pv 2) (λ_ _=>rfl)) A3)))
   (A5 (B6 (i:=5) sc__law_round_right.nd rfl (Or.inl rfl) (N4 Ab1 PySem.F.slot_list_index PySem.F.type_list_index (aQ7 K) (pv 4) (A0 (B7 (ixK K) (pv 3) A4 (λ_ _=>rfl)) A3)))
   (A5 (B6 (i:=6) sc__law_round_right.nd rfl (Or.inl rfl) A4)
   (A5 (L7 PassesOwn.never rfl (aJ2 (B2 (M7 K) (V4 (cK4 K) (pv 4) (W4 (B2 D1 (pv 5) A4)) t5) (V4 (cK4 K) (pv 4) t5 (W4 (pv 5))))) (B4 (i:=7) sc__law_round_right.nd rfl (Or.inl rfl)) (A8 (R7 (PW.pt (y6 (C1 aQ8 (pv 6) A4 (E2 _)) (aC9 (C1 aS2 (pv 7) (B7 (ixK K) (pv 3) (B2 D1 (pv 6) A4) (λ_ _=>rfl)) (E2 _))))) (A8 (B6 (i:=6) sc__law_round_right.nd rfl (Or.inl rfl) (B2 D1 (pv 6) A4))) (A8 (R7 (C1 (aE9 K hr) (C4 G__law_colour_in (hr.mono (by decide)) rfl T.aE8 T.Y5.kp T.aF3 .nil J5 (A0 (pv 1) (A0 (pv 2) (A0 (pv 7) A3)))) (B2 U1 (B2 D1 (pv 6) A4) A4) (E2 _)) (A8 (C9 V7)) K4)))))
   (A8 (C9 (cA5 aS2 (pv 6) A4 (E2 _))))))))),M1 hS r ?_ q⟩
 have hdl:=dw.len
 have m7:=dw.m7
 have B:=dw.gd
 obtain ⟨x,y,z,TR⟩:=AR.trp h3 hp;have hln:(TT.trn dr p).length<=m+3:=TT.bF5 (B.good.nd p) (B.good.lt p);have hidx:(TT.trn dr p).idxOf x<(TT.trn dr p).length:=Ac4 TR.ma;refine B1 (L8 (d:=tI [(x:Int),(y:Int),(z:Int)]) (G5 (ds:=os.map tI) (A2 rfl) (K5 (A2 rfl) A6) rfl (K0 (p-3) (by omega) (by rw[Aa9,TR.at_];rfl))) ?_)
 refine B1 (K2 (cE8 (ds:=nI (TT.trn dr p)) (A1 (G5 (d':=tN (TT.trn dr p)) (ds:=dr.map tN) (A2 rfl) (A2 rfl) rfl (K0 p rfl (by rw[Aa9,bH9 (by omega)];rfl))) A7) rfl (E7 _)) ?_ (show 4<8 by decide))
 refine B1 (L8 (d:=.int ((TT.trn dr p).idxOf x:Nat)) ?_ ?_)
 ·have h:=bC1 (K:=K) (m:=true) (ρ:=[.val (.tuple (dr.map tN)),.val (.tuple (os.map tI)),.val (.int (p:Int)),.val (tI [(x:Int),(y:Int),(z:Int)]),.own ((((TT.trn dr p).map λ(x:Nat)=>(x:Int))).map PyData.int),.no,.no,.no]) (l:=(TT.trn dr p).map λ(x:Nat)=>(x:Int)) (ta:=D9 4) (tb:=tOp (rIx K) (D9 3) (tC (.int 0))) (k:=(x:Int)) (G9 (i:=4) rfl) (G5 (d':=.int (x:Int)) (A2 (i:=3) rfl) (A6 (i:=0)) rfl (K0 0 rfl rfl)) (Aa8.mpr ⟨_,TR.ma,rfl⟩)
  rw[aB2]at h;have e:((TT.trn dr p).map λ(x:Nat)=>(x:Int)).map PyData.int=nI (TT.trn dr p):=by unfold nI;simp
  rw[e]at h;exact h
 refine B1 (L8 A6 ?_);have e1:LV.y7 (nI (TT.trn dr p)) (some (((TT.trn dr p).idxOf x:Nat)+1:Int)) none=nI ((TT.trn dr p).drop ((TT.trn dr p).idxOf x+1)):=by
  rw[show((((TT.trn dr p).idxOf x:Nat):Int)+1)=((((TT.trn dr p).idxOf x+1:Nat)):Int) by omega,aF2 (by rw[D3];omega),aU7]
 have e2:LV.y7 (nI (TT.trn dr p)) none (some (((TT.trn dr p).idxOf x:Nat):Int))=nI ((TT.trn dr p).take ((TT.trn dr p).idxOf x)):=by
  rw[aJ5 (by rw[D3];omega),bK8]
 have erest:(TT.trn dr p).drop ((TT.trn dr p).idxOf x+1)++(TT.trn dr p).take ((TT.trn dr p).idxOf x)=rest dr os p:=by unfold rest;rw[TR.first]
 have hI:LV.I K true (bY5 K (tOp (bJ6 K) (tSl (bS1 K) (D9 4) (bI3 (tOp (rI0 λi j=>.int (i+j)) (D9 5) (tC (.int 1)))) aI9) (tSl (bS1 K) (D9 4) aI9 (bI3 (D9 5))))) [.val (.tuple (dr.map tN)),.val (.tuple (os.map tI)),.val (.int (p:Int)),.val (tI [(x:Int),(y:Int),(z:Int)]),.own (nI (TT.trn dr p)),.val (.int ((TT.trn dr p).idxOf x:Nat)),.val (.int 0),.no] (nI (rest dr os p)):=by
  have h:=aL0 (K:=K) (ρ:=[.val (.tuple (dr.map tN)),.val (.tuple (os.map tI)),.val (.int (p:Int)),.val (tI [(x:Int),(y:Int),(z:Int)]),.own (nI (TT.trn dr p)),.val (.int ((TT.trn dr p).idxOf x:Nat)),.val (.int 0),.no]) (EF.e' (bD8 (ta:=D9 4) (ds:=nI (TT.trn dr p)) (G9 (i:=4) rfl) (m8 (K5 (g:=λi j=>i+j) (A2 (i:=5) rfl) (A6 (i:=1)))) aG1 (E7 _))) (EF.e' (bD8 (ta:=D9 4) (ds:=nI (TT.trn dr p)) (G9 (i:=4) rfl) aG1 (m8 (A2 (i:=5) rfl)) (E7 _))) (P6 _ _ (E7 _)) (P6 _ _ (E7 _)) (by rw[e1,e2,D3,D3,List.length_drop,Ad1];unfold PySem.sizeLine;omega)
  rw[e1,e2,<- y2,erest]at h;exact aX1 (EF.e' h)
 refine B1 (P4 hI (λi ρ=>∃s x7,s<=2/\X8 0 ((rest dr os p).map (sec os p))=X8 s (((rest dr os p).drop i).map (sec os p))/\ρ=[.val (.tuple (dr.map tN)),.val (.tuple (os.map tI)),.val (.int (p:Int)),.val (tI [(x:Int),(y:Int),(z:Int)]),.own (nI (TT.trn dr p)),.val (.int ((TT.trn dr p).idxOf x:Nat)),.val (.int (s:Nat)),x7]) ⟨0,.no,by omega,rfl,rfl⟩ ?_ ?_)
 ·rintro i d _ hd ⟨s,x7,hs,hm,rfl⟩;obtain ⟨q',hx,rfl⟩:∃x,(rest dr os p)[i]? = some x/\d=.int (x:Int):=by
   unfold nI at hd;rw[Aa9]at hd;obtain ⟨x,h1,h2⟩:=Option.map_eq_some_iff.mp hd;exact⟨x,h1,h2.symm⟩
  have hi:i<(rest dr os p).length:=(Ab0.mp hx).1
  have hq:=bV7 TR (List.mem_of_getElem? hx)
  have ed:(rest dr os p).drop i=q'::(rest dr os p).drop (i+1):=by
   rw[List.drop_eq_getElem_cons hi];rw[Aa2 hi]at hx;rw[Ab4 hx]
  rw[ed,Ac7,bQ1]at hm;refine⟨_,B9,?_⟩;have hti:∀s,s<2->atI ([(x:Int),(y:Int),(z:Int)].map PyData.int) ((s:Nat)+1:Int)=some (.int (([y,z].getD s 0:Nat):Int)):=λs hs=>by
   rcases (show s=0\/s=1 by omega) with e | e <;> subst e
   ·exact K0 1 rfl rfl
   ·exact K0 2 rfl rfl
  have hse:∀s,s<2->(sec os p q'=2*(s+1)↔q'=[y,z].getD s 0):=λs hs=>by
   rcases (show s=0\/s=1 by omega) with e | e <;> subst e
   ·exact(bA6 TR (q:=q')).2.1
   ·exact(bA6 TR (q:=q')).2.2
  have ht:=aM9 (K:=K) (ρ:=[.val (.tuple (dr.map tN)),.val (.tuple (os.map tI)),.val (.int (p:Int)),.val (tI [(x:Int),(y:Int),(z:Int)]),.own (nI (TT.trn dr p)),.val (.int ((TT.trn dr p).idxOf x:Nat)),.val (.int (s:Nat)),.val (.int (q':Int))]) (b:=decide ((q':Int)=(([y,z].getD s 0:Nat):Int))) (C7 (aB4 (g:=λi j=>decide (i<j)) (A2 (i:=6) rfl) (A6 (i:=2)))) (λh=>by
   have h:((s:Nat):Int)<2:=of_decide_eq_true h
   exact C7 (aR9 (A2 (i:=7) rfl) (G5 (ds:=[(x:Int),(y:Int),(z:Int)].map PyData.int) (A2 (i:=3) rfl) (K5 (g:=λi j=>i+j) (A2 (i:=6) rfl) (A6 (i:=1))) rfl (hti s (by omega)))))
  refine m6 ht (λh=>?_) (λh=>?_)
  ·have h:=Bool.and_eq_true _ _▸h
   have h1:((s:Nat):Int)<2:=of_decide_eq_true h.1
   have h2:(q':Int)=(([y,z].getD s 0:Nat):Int):=of_decide_eq_true h.2
   rw[if_pos ⟨by omega,(hse s (by omega)).mpr (by omega)⟩]at hm
   refine L8 (K5 (g:=λi j=>i+j) (A2 rfl) A6) ⟨s+1,.val (.int (q':Int)),by omega,hm,?_⟩
   rw[show(((s+1:Nat)):Int)=(s:Int)+1 by omega];rfl
  ·have hno:¬(s<2/\sec os p q'=2*(s+1)):=λ⟨z1,z2⟩=>by
    have e1:decide (((s:Nat):Int)<2)=true:=decide_eq_true (by omega)
    have e2:decide ((q':Int)=(([y,z].getD s 0:Nat):Int))=true:=decide_eq_true (by rw[(hse s z1).mp z2])
    rw[e1,e2]at h;cases h
   rw[if_neg hno]at hm;have e3:((s:Nat):Int)+2=((s+2:Nat):Int):=by omega
   have hci:=C7 (aQ6 (K:=K) (m:=false) (ρ:=[.val (.tuple (dr.map tN)),.val (.tuple (os.map tI)),.val (.int (p:Int)),.val (tI [(x:Int),(y:Int),(z:Int)]),.own (nI (TT.trn dr p)),.val (.int ((TT.trn dr p).idxOf x:Nat)),.val (.int (s:Nat)),.val (.int (q':Int))]) (E3 (pre:=cG7) (X:=E0) (d:=ciD os p q') (A1 (A2 (i:=1) rfl) (A1 (A2 (i:=2) rfl) (A1 (A2 (i:=7) rfl) A7))) ⟨os,p,q',AR.r3,λhq2=>by
     obtain ⟨x',y',z',T'⟩:=AR.trp (p:=q') (by omega) (B.good.lt p q' hq)
     rw[T'.at_,T'.e],rfl,rfl⟩) (e_i (C:=λ_ j=>0<j) (g:=λi j=>i % j) (K5 (g:=λi j=>i+j) (A2 (i:=6) rfl) (A6 (i:=2))) (A6 (i:=3)) (by decide)) (cD4 _ _ _) (aJ0 _))
   rw[show(((s:Nat):Int)+2) % 3=(((s+2) % 3:Nat):Int) by omega,cC0]at hci
   refine m6 hci (λh'=>L9 aO5 ?_) (λh'=>N1 ?_)
   ·have hne:¬ci os p q'=some ((s+2) % 3):=by simpa using h'
    rw[if_neg (λe=>hne ((bV6 B AR TR h3 hp hq hs).mp e))]at hm
    rw[hm]
   ·have he:ci os p q'=some ((s+2) % 3):=by simpa using h'
    rw[if_pos ((bV6 B AR TR h3 hp hq hs).mpr he)]at hm;exact⟨s,.val (.int (q':Int)),hs,hm,rfl⟩
 ·rintro _ ⟨s,x7,hs,hm,rfl⟩;rw[D3,List.drop_length,List.map_nil,bV0]at hm;refine L9 (aR9 (A2 rfl) A6) ?_;show PyData.bool _=PyData.bool _;rw[hm]
  congr 1
  rcases (show s=0\/s=1\/s=2 by omega) with e | e | e <;> subst e <;> rfl
end
theorem sc__law_arrows_right:D7 ["_law_drawing", "_law_outs", "_law_met", "_law_v", "_law_q"] ["_law_drawing", "_law_outs"] (A9 E5):=⟨rfl,rfl,rfl,by decide +kernel,rfl,by decide +kernel,by decide +kernel⟩
theorem sc__law_looks:D7 ["_law_drawing", "_law_outs", "_law_v", "_law_colour"] ["_law_drawing", "_law_outs"] (A9 O5):=⟨rfl,rfl,rfl,by decide +kernel,rfl,by decide +kernel,by decide +kernel⟩
def cU0 (ds:List PyData)(d:PyData):Prop:=∃(m:Nat) (dr tr:List (List Nat)) (os:List (List Int)),Dw m dr tr/\R3 os/\os.length<=20/\ds=[.tuple (dr.map tN),.tuple (os.map tI)]/\d=.bool (arB m dr os)
theorem bT6 {α:Type}(g:Nat->List α){i n:Nat}(h:i<n):∃t,ga g n=ga g i++(g i++t):=by
 induction n with
 | zero=>omega
 | succ n ih=>
  by_cases e:i=n
  ·subst e;exact⟨[],by rw[M5];simp⟩
  ·obtain ⟨t,h⟩:=ih (by omega)
   exact⟨t++g n,by rw[M5,h];simp⟩
theorem cS0 {os:List (List Int)}{i j:Nat}{x:Int×Int}(hi:i<os.length)(hx:(ga2 os i)[j]? = some x):∃suf,aL os=(ga (ga2 os) i++(ga2 os i).take j)++x::suf:=by
 obtain ⟨t,h⟩:=bT6 (ga2 os) hi;obtain ⟨hj,e⟩:=Ab0.mp hx;have e2:ga2 os i=(ga2 os i).take j++x::(ga2 os i).drop (j+1):=by
  have:=(Ad3 j (ga2 os i)).symm
  rw[List.drop_eq_getElem_cons hj,e]at this;exact this
 refine⟨(ga2 os i).drop (j+1)++t,?_⟩;unfold aL;rw[h]
 conv=>lhs;rw[e2]
 simp
theorem cR5 {pre suf:List (Int×Int)}{x:Int×Int}:tb (pre++x::suf) pre.length=(decide (x∈pre)||decide ((x.2,x.1)∈pre)):=by
 unfold tb;have e:gp (pre++x::suf) pre.length=x:=by
  unfold gp;rw[Ac0,List.getElem?_append_right (Aa7 _)]
  simp
 rw[e]
 simp
theorem cT2 {m:Nat}{dr:List (List Nat)}{os:List (List Int)}{pre suf:List (Int×Int)}{x:Int×Int}(e:aL os=pre++x::suf)(h:td dr x.1 x.2=false\/tb (aL os) pre.length=true):arB m dr os=false:=by
 cases hb:arB m dr os with
 | false=>rfl
 | true=>
  exfalso
  unfold arB at hb;rw[Bool.and_eq_true,Bool.and_eq_true,Ac9,Ac9]at hb;rcases h with h | h
  ·have:=hb.2.1 x (by rw[e];simp)
   rw[h]at this;cases this
  ·have:=hb.2.2 pre.length (Ab5.mpr (by rw[e];simp))
   rw[h]at this;cases this
section
variable {P:Program}{w:World}{K:PySem.W.Frag}{mg:Str->Option Value}{base:Heap}{a:Ad}
theorem cU4 (T:Tx K mg a):G3 P w K mg base CX0 1 a.P3 a.P2 ["_law_drawing", "_law_outs"] (spV K cU0):=by
 refine T.U5.ok sc__law_arrows_right (X3 λds d ⟨_,_,_,_,_,_,_,e,_⟩=>by rw[e];rfl) (λcdv A outer s H vs Q E hr h=>?_)
 obtain ⟨ds,S,d,hS,r,⟨m,dr,tr,os,dw,r3,hl,rfl,rfl⟩,q⟩:=h;refine⟨_,(A5 (R7 (C1 bN4 (C3 (aN8 K) (by rfl) T.P1 PySem.boot_len (A0 (pv 1) A3)) (B2 U3 (C3 (aN8 K) (by rfl) T.P1 PySem.boot_len (A0 (pv 0) A3)) A4) (E2 _)) (A8 (C9 V7)) K4)
   (A5 (B6 (i:=2) sc__law_arrows_right.nd rfl (Or.inl rfl) (C6 A3))
   (A5 (L7 PassesOwn.never rfl (G4 rfl T.G6 (A0 (C3 (aN8 K) (by rfl) T.P1 PySem.boot_len (A0 (pv 1) A3)) A3)) (B4 (i:=3) sc__law_arrows_right.nd rfl (Or.inl rfl)) (A8 (L7 PassesOwn.never rfl (X7 (B7 (ixK K) (pv 1) (pv 3) (λ_ _=>rfl))) (B4 (i:=4) sc__law_arrows_right.nd rfl (Or.inl rfl)) (A5 (R7 (PW.pt (w5 (r6 (bZ5 cU2 aQ8 A4 (pv 4) (C3 (aN8 K) (by rfl) T.P1 PySem.boot_len (A0 (pv 0) A3)))) (w5 (C1 (aS1 K hr) (pv 4) (B7 (ixK K) (pv 0) (B2 D1 A4 (pv 3)) (λ_ _=>rfl)) rfl) (w5 (C1 (aN7 K hr) (G0 (A0 (pv 4) (A0 (B2 D1 A4 (pv 3)) A3))) (pv 2) rfl) (aG4 (C1 (aN7 K hr) (G0 (A0 (B2 D1 A4 (pv 3)) (A0 (pv 4) A3))) (pv 2) rfl)))))) (A8 (C9 V7)) K4)
   (A8 (H9 (N4 Ab1 PySem.F.slot_list_append PySem.F.type_list_append D8 (pv 2) (A0 (G0 (A0 (B2 D1 A4 (pv 3)) (A0 (pv 4) A3))) A3))))))))
   (A8 (C9 V7))))),M1 hS r ?_ q⟩
 have hdl:=dw.len
 have m7:=dw.m7
 have B:=dw.gd
 have hln:((dr.map tN).length:Int)=(m:Int)+3:=by rw[Aa3,hdl];omega
 have hlo:((os.map tI).length:Int)=(os.length:Int):=by rw[Aa3]
 refine B1 (m6 (C7 (bI5 (S8 (ds:=os.map tI) (A1 (A2 rfl) A7)) (K5 (S8 (ds:=dr.map tN) (A1 (A2 rfl) A7)) A6))) (λh=>L9 aO5 ?_) (λh=>N1 ?_))
 ·have h:¬((os.map tI).length:Int)=((dr.map tN).length:Int)-3:=by simpa using h
  rw[hln,hlo]at h;show PyData.bool false=.bool (arB m dr os);unfold arB;rw[decide_eq_false (by omega)];rfl
 have hlm:os.length=m:=by
  have h:((os.map tI).length:Int)=((dr.map tN).length:Int)-3:=by simpa using h
  rw[hln,hlo]at h;omega
 refine B1 (K2 (J4 A7) ?_ (show 2<5 by decide))
 refine B1 (P4 (P7 (A1 (S8 (ds:=os.map tI) (A1 (A2 rfl) A7)) A7) (by rw[hlo];omega) (by rw[hlo];omega)) (λi ρ=>((∀x∈ga (ga2 os) i,td dr x.1 x.2=true)/\∀k,k<(ga (ga2 os) i).length->tb (aL os) k=false)/\∃x3 x4,(x3.nb=true/\x4.nb=true)/\ρ=[.val (.tuple (dr.map tN)),.val (.tuple (os.map tI)),.own ((ga (ga2 os) i).map pD),x3,x4]) ⟨⟨λx hx=>(nomatch hx),λk hk=>absurd hk (Nat.not_lt_zero _)⟩,.no,.no,⟨rfl,rfl⟩,rfl⟩ ?_ ?_)
 ·rintro i d _ hd ⟨⟨ht0,hb0⟩,x3,x4,⟨b3,b4⟩,rfl⟩;obtain ⟨rfl,hi⟩:=Q1 hd;rw[hlo]at hi;have hi:i<os.length:=by omega
  obtain ⟨row,h1⟩:∃row,os[i]? = some row:=⟨_,Aa2 hi⟩;have eg:os.getD i []=row:=by rw[Ac0,h1];rfl
  have hrl:row.length=3:=r3 _ (List.mem_of_getElem? h1)
  have hal:=aA1 r3 i (by omega)
  refine⟨_,B9,?_⟩;refine P4 (v9 (ds:=row.map PyData.int) (G5 (d':=tI row) (ds:=os.map tI) (A2 rfl) (A2 rfl) rfl (K0 i rfl (by rw[Aa9,h1];rfl)))) (λj ρ=>((∀x∈ga (ga2 os) i++(ga2 os i).take j,td dr x.1 x.2=true)/\∀k,k<(ga (ga2 os) i++(ga2 os i).take j).length->tb (aL os) k=false)/\∃x4,x4.nb=true/\ρ=[.val (.tuple (dr.map tN)),.val (.tuple (os.map tI)),.own ((ga (ga2 os) i++(ga2 os i).take j).map pD),.val (.int (i:Int)),x4]) ⟨⟨by simpa using ht0,by simpa using hb0⟩,x4,b4,by simp only[List.take_zero,List.append_nil];rfl⟩ ?_ ?_
  ·rintro j d _ hd ⟨⟨ht,hb⟩,x4,b4,rfl⟩;rw[Aa9]at hd;obtain ⟨v,hv,rfl⟩:=Option.map_eq_some_iff.mp hd;have hj:j<row.length:=(Ab0.mp hv).1;have hx:(ga2 os i)[j]? = some ((i:Int)+3,v):=by unfold ga2;rw[Aa9,eg,hv];rfl
   obtain ⟨suf,eL⟩:=cS0 hi hx;have htb:=cR5 (pre:=ga (ga2 os) i++(ga2 os i).take j) (suf:=suf) (x:=((i:Int)+3,v));rw[<- eL]at htb;have et:(ga2 os i).take (j+1)=(ga2 os i).take j++[((i:Int)+3,v)]:=by rw[List.take_succ,hx];rfl
   refine⟨_,B9,?_⟩;show W K _ [.val (.tuple (dr.map tN)),.val (.tuple (os.map tI)),.own ((ga (ga2 os) i++(ga2 os i).take j).map pD),.val (.int (i:Int)),.val (.int v)] _;generalize hpre:ga (ga2 os) i++(ga2 os i).take j=pre at *;have hr:∀(b1 b2 b3:Bool),LV.T K (tOr (cO7 (w4 (bG0 (rI0 λi j=>.bl (decide (i<=j))) (rI0 λi j=>.bl (decide (i<j))) (tC (.int 0)) (D9 4) (tCB (λxs H Q=>∃p ys,xs=[.ref p]/\(SqL K H p ys\/SqT K H p ys)/\Q (.int ys.length) H) (E1 (D9 0) S6))))) (tOr (w4 (tOp (aW0 K true) (D9 4) (tOp (rIx K) (D9 0) (tOp (rI0 λi j=>.int (i+j)) (tC (.int 3)) (D9 3))))) (tOr (w4 (tOp (aW0 K false) (aH5 (E1 (D9 4) (E1 (tOp (rI0 λi j=>.int (i+j)) (tC (.int 3)) (D9 3)) S6))) (D9 2))) (w4 (tOp (aW0 K false) (aH5 (E1 (tOp (rI0 λi j=>.int (i+j)) (tC (.int 3)) (D9 3)) (E1 (D9 4) S6))) (D9 2)))))) [.val (.tuple (dr.map tN)),.val (.tuple (os.map tI)),.own (pre.map pD),.val (.int (i:Int)),.val (.int v)] (!(decide ((0:Int)<=v)&&decide (v<(m:Int)+3))||(!decide (v∈(TT.trn dr (i+3)).map λ(x:Nat)=>(x:Int))||(decide ((v,(i:Int)+3)∈pre)||decide (((i:Int)+3,v)∈pre)))):=λ_ _ _=>by
    have e3:(3:Int)+(i:Int)=(i:Int)+3:=by omega
    have c1:=aH4 (C7 (cF3 (K:=K) (m:=false) (ρ:=[.val (.tuple (dr.map tN)),.val (.tuple (os.map tI)),.own (pre.map pD),.val (.int (i:Int)),.val (.int v)]) (r:=rI0 λi j=>.bl (decide (i<=j))) (r':=rI0 λi j=>.bl (decide (i<j))) (g:=λi j=>decide (i<=j)) (g':=λi j=>decide (i<j)) (A6 (i:=0)) (A2 (i:=4) rfl) (S8 (ds:=dr.map tN) (A1 (A2 (i:=0) rfl) A7))))
    rw[hln]at c1;have c2:=C7 (bD4 (K:=K) (m:=false) (ρ:=[.val (.tuple (dr.map tN)),.val (.tuple (os.map tI)),.own (pre.map pD),.val (.int (i:Int)),.val (.int v)]) (ds:=nI (TT.trn dr (i+3))) (A2 (i:=4) rfl) (G5 (d':=tN (TT.trn dr (i+3))) (ds:=dr.map tN) (A2 (i:=0) rfl) (K5 (g:=λi j=>i+j) (A6 (i:=3)) (A2 (i:=3) rfl)) rfl (K0 (i+3) (by omega) (by rw[Aa9,bH9 (by omega)];rfl))) rfl (aJ0 _) (by rw[bK6];exact(aW2 _).fit))
    rw[cN4]at c2;have c3:=C7 (bA8 (K:=K) (m:=false) (ρ:=[.val (.tuple (dr.map tN)),.val (.tuple (os.map tI)),.own (pre.map pD),.val (.int (i:Int)),.val (.int v)]) (ds:=pre.map pD) (N5 (A1 (A2 (i:=4) rfl) (A1 (K5 (g:=λi j=>i+j) (A6 (i:=3)) (A2 (i:=3) rfl)) A7))) (G9 (i:=2) rfl) rfl (aA4 (v,3+(i:Int))).fit (bR6 _))
    have c4:=C7 (bA8 (K:=K) (m:=false) (ρ:=[.val (.tuple (dr.map tN)),.val (.tuple (os.map tI)),.own (pre.map pD),.val (.int (i:Int)),.val (.int v)]) (ds:=pre.map pD) (N5 (A1 (K5 (g:=λi j=>i+j) (A6 (i:=3)) (A2 (i:=3) rfl)) (A1 (A2 (i:=4) rfl) A7))) (G9 (i:=2) rfl) rfl (aA4 (3+(i:Int),v)).fit (bR6 _))
    have d3:=(aL5 (v,3+(i:Int)) pre)▸c3
    have d4:=(aL5 (3+(i:Int),v) pre)▸c4
    rw[e3]at d3 d4;exact aP0 c1 λ_=>aP0 c2 λ_=>aP0 d3 λ_=>d4
   have htd:td dr ((i:Int)+3) v=true↔v∈(TT.trn dr (i+3)).map λ(x:Nat)=>(x:Int):=by
    unfold td;rw[show((i:Int)+3).toNat=i+3 by omega]
    simp only[Bool.and_eq_true,decide_eq_true_eq];constructor
    ·exact λh=>h.2
    ·exact λh=>⟨⟨by omega,by omega⟩,h⟩
   refine B1 (m6 (hr true true true) (λh=>L9 aO5 ?_) (λh=>N1 ?_))
   ·show PyData.bool false=.bool (arB m dr os)
    rw[cT2 eL ?_];rw[htb];simp only[Bool.or_eq_true,Bool.not_eq_true',Bool.and_eq_false_iff,decide_eq_false_iff_not,decide_eq_true_eq]at h;by_cases hm:v∈(TT.trn dr (i+3)).map λ(x:Nat)=>(x:Int)
    ·obtain ⟨y,hy,rfl⟩:=Aa8.mp hm;have hyl:=B.good.lt _ _ hy;rcases h with h | h | h | h
     ·exfalso;omega
     ·exact absurd hm h
     ·right;simp[h]
     ·right;simp[h]
    ·left
     cases hz:td dr ((i:Int)+3) v with
     | false=>rfl
     | true=>exact absurd (htd.mp hz) hm
   ·simp only[Bool.or_eq_false_iff,Bool.not_eq_false',decide_eq_true_eq,decide_eq_false_iff_not]at h;obtain ⟨_,h2,h3,h4⟩:=h;have em:(ga (ga2 os) i++(ga2 os i).take (j+1)).map pD=pre.map pD++[pD ((i:Int)+3,v)]:=by
     rw[et,<- Ad7,hpre,Ad2];rfl
    refine R5 rfl (N5 (A1 (K5 A6 (A2 rfl)) (A1 (A2 rfl) A7))) ?_ ⟨⟨λx hx=>?_,λk hk=>?_⟩,.val (.int v),rfl,?_⟩
    ·rw[<- hpre];simp only[Ab7,Aa3,Ad1];unfold PySem.sizeLine;omega
    ·rw[et,<- Ad7,hpre]at hx;rcases Aa0.mp hx with hx | hx
     ·exact ht x hx
     ·rw[Ad8.mp hx];exact htd.mpr h2
    ·rw[et,<- Ad7,hpre,Ab7,List.length_singleton]at hk;by_cases hk':k<pre.length
     ·exact hb k hk'
     ·have:k=pre.length:=by omega
      subst this;rw[htb]
      simp[h3,h4]
    ·rw[em,show(3:Int)+(i:Int)=(i:Int)+3 by omega];rfl
  ·rintro _ ⟨⟨ht,hb⟩,x4,b4,rfl⟩
   have:(ga2 os i).take (row.map PyData.int).length=ga2 os i:=List.take_of_length_le (by unfold ga2;rw[Aa3,Aa3,eg];exact Aa7 _)
   rw[this]at ht hb ⊢;rw[<- M5]at ht hb ⊢;exact⟨⟨ht,hb⟩,.val (.int (i:Int)),x4,⟨rfl,b4⟩,rfl⟩
 rintro _ ⟨⟨ht,hb⟩,x3,x4,⟨b3,b4⟩,rfl⟩;have e:(T3 0 ((os.map tI).length:Int).toNat).length=os.length:=by rw[O0,hlo];omega
 rw[e]at ht hb;refine L9 aO5 ?_;show PyData.bool true=.bool (arB m dr os)
 have:arB m dr os=true:=by
  unfold arB;rw[Bool.and_eq_true,Bool.and_eq_true,Ac9,Ac9,decide_eq_true_eq];exact⟨hlm,ht,λk hk=>by rw[hb k (Ab5.mp hk)];rfl⟩
 rw[this]
theorem cU9 (T:Tx K mg a):G3 P w K mg base CX0 3 a.j5 a.g8 ["_law_drawing", "_law_outs"] (spV K cH4):=by
 have G__law_arrows_right:G3 P w K mg base CX0 1 _ _ _ _:=cU4 T
 have G__law_round_right:G3 P w K mg base CX0 2 _ _ _ _:=cR4 T
 refine T.aE1.ok sc__law_looks (X3 λds d ⟨_,_,_,_,_,_,_,e,_⟩=>by rw[e];rfl) (λcdv A outer s H vs Q E hr h=>?_)
 obtain ⟨ds,S,d,hS,r,⟨m,dr,tr,os,dw,r3,hl,rfl,rfl⟩,q⟩:=h;refine⟨_,(A5 (R7 (r6 (aA8 (C4 G__law_arrows_right (hr.mono (by decide)) rfl T.v4 T.U5.kp T.v6 .nil J5 (A0 (pv 0) (A0 (pv 1) A3))))) (A8 (C9 V7)) K4)
   (A5 (L7 PassesOwn.never rfl (G4 rfl T.G6 (A0 (C3 (aN8 K) (by rfl) T.P1 PySem.boot_len (A0 (pv 1) A3)) A3)) (B4 (i:=2) sc__law_looks.nd rfl (Or.inl rfl)) (A5 (L7 PassesOwn.never rfl (G4 rfl T.G6 (A0 A4 A3)) (B4 (i:=3) sc__law_looks.nd rfl (Or.inl rfl)) (A8 (R7 (PW.pt (y6 (C1 aQ8 (B7 (ixK K) (B7 (ixK K) (pv 1) (pv 2) (λ_ _=>rfl)) (pv 3) (λ_ _=>rfl)) A4 (E2 _)) (aC9 (C1 bN4 (B7 (ixK K) (B7 (ixK K) (pv 1) (pv 2) (λ_ _=>rfl)) (pv 3) (λ_ _=>rfl)) (pv 3) (E2 _))))) (A8 (C9 V7)) K4)))
   (A8 (R7 (r6 (aA8 (C4 G__law_round_right (hr.mono (by decide)) rfl T.aA3 T.V9.kp T.y9 .nil J5 (A0 (pv 0) (A0 (pv 1) (A0 (B2 D1 A4 (pv 2)) A3)))))) (A8 (C9 V7)) K4))))
   (A8 (C9 V7)))),M1 hS r ?_ q⟩
 have hdl:=dw.len
 have m7:=dw.m7
 have hlo:((os.map tI).length:Int)=(os.length:Int):=by rw[Aa3]
 refine B1 (m6 (aH4 (t_b (E3 (A1 (A2 rfl) (A1 (A2 rfl) A7)) ⟨m,dr,tr,os,dw,r3,hl,rfl,rfl⟩))) (λh=>L9 aO5 ?_) (λh=>N1 ?_))
 ·have h:arB m dr os=false:=by simpa using h
  show PyData.bool false=.bool (isO m dr os)
  unfold isO;rw[h];rfl
 have hb:arB m dr os=true:=by simpa using h
 have AR:=cT4 r3 hb
 refine B1 (P4 (P7 (A1 (S8 (ds:=os.map tI) (A1 (A2 rfl) A7)) A7) (by rw[hlo];omega) (by rw[hlo];omega)) (λi ρ=>(∀j,j<i->aZ3 dr os (j+3)=true)/\∃x2 x3,ρ=[.val (.tuple (dr.map tN)),.val (.tuple (os.map tI)),x2,x3]) ⟨λj hj=>by omega,.no,.no,rfl⟩ ?_ ?_)
 ·rintro i d _ hd ⟨hok,x2,x3,rfl⟩;obtain ⟨rfl,hi⟩:=Q1 hd;rw[hlo]at hi;have hi:i<os.length:=by omega
  have him:i<m:=by rw[<- AR.len];exact hi
  obtain ⟨x,y,z,TR⟩:=AR.trp (p:=i+3) (by omega) (by omega)
  have hat:=TR.at_
  rw[show i+3-3=i by omega]at hat
  have bad:aZ3 dr os (i+3)=false->isO m dr os=false:=λhc=>by
   cases hz:isO m dr os with
   | false=>rfl
   | true=>
    unfold isO at hz;rw[Bool.and_eq_true,Ac9]at hz
    have:=hz.2 i (Ab5.mpr him)
    rw[hc]at this;cases this
  refine⟨_,B9,?_⟩;refine B1 (P4 (P7 (A1 A6 A7) (by decide) (by decide)) (λc ρ=>(∀j,j<c->(decide ((([x,y,z].getD j 0:Nat):Int)<3) && !decide ((([x,y,z].getD j 0:Nat):Int)=(j:Int)))=false)/\∃x3,ρ=[.val (.tuple (dr.map tN)),.val (.tuple (os.map tI)),.val (.int (i:Int)),x3]) ⟨λj hj=>by omega,x3,rfl⟩ ?_ ?_)
  ·rintro c d _ hd ⟨hcc,x3,rfl⟩;obtain ⟨rfl,hc⟩:=Q1 hd;have hc:c<3:=hc;refine⟨_,B9,?_⟩;have hcat:atI ([(x:Int),(y:Int),(z:Int)].map PyData.int) (c:Int)=some (.int (([x,y,z].getD c 0:Nat):Int)):=by
    rcases (show c=0\/c=1\/c=2 by omega) with e | e | e <;> subst e
    ·exact K0 0 rfl rfl
    ·exact K0 1 rfl rfl
    ·exact K0 2 rfl rfl
   refine m6 (aM9 (C7 (aB4 (G5 (d':=.int (([x,y,z].getD c 0:Nat):Int)) (G5 (d':=tI [(x:Int),(y:Int),(z:Int)]) (ds:=os.map tI) (A2 rfl) (A2 rfl) rfl (K0 i rfl (by rw[Aa9,hat];rfl))) (A2 rfl) rfl hcat) A6)) λ_=>(C7 (bI5 (G5 (d':=.int (([x,y,z].getD c 0:Nat):Int)) (G5 (d':=tI [(x:Int),(y:Int),(z:Int)]) (ds:=os.map tI) (A2 rfl) (A2 rfl) rfl (K0 i rfl (by rw[Aa9,hat];rfl))) (A2 rfl) rfl hcat) (A2 rfl)))) (λh=>L9 aO5 ?_) (λh=>N1 ⟨λj hj=>?_,_,rfl⟩)
   ·show PyData.bool false=.bool (isO m dr os)
    rw[bad ?_];unfold aZ3 crn;rw[TR.e];rcases (show c=0\/c=1\/c=2 by omega) with e | e | e <;> subst e
    ·have h:(decide ((x:Int)<3) && !decide ((x:Int)=0))=true:=h
     show(!(decide ((x:Int)<3) && !decide ((x:Int)=0))&&_&&_)=false
     rw[h];rfl
    ·have h:(decide ((y:Int)<3) && !decide ((y:Int)=1))=true:=h
     show(_&&(!(decide ((y:Int)<3) && !decide ((y:Int)=1))&&_)&&_)=false
     rw[h];simp
    ·have h:(decide ((z:Int)<3) && !decide ((z:Int)=2))=true:=h
     show(_&&(_ && !(decide ((z:Int)<3) && !decide ((z:Int)=2)))&&_)=false
     rw[h];simp
   ·by_cases e:j=c
    ·subst e;exact h
    ·exact hcc j (by omega)
  rintro _ ⟨hcc,x3,rfl⟩;have hcc:∀j,j<3->(decide ((([x,y,z].getD j 0:Nat):Int)<3) && !decide ((([x,y,z].getD j 0:Nat):Int)=(j:Int)))=false:=hcc;have hcr:crn os (i+3)=true:=by
   have c0:(decide ((x:Int)<3) && !decide ((x:Int)=0))=false:=hcc 0 (by omega)
   have c1:(decide ((y:Int)<3) && !decide ((y:Int)=1))=false:=hcc 1 (by omega)
   have c2:(decide ((z:Int)<3) && !decide ((z:Int)=2))=false:=hcc 2 (by omega)
   unfold crn;rw[TR.e];show(!(decide ((x:Int)<3) && !decide ((x:Int)=0))&&(!(decide ((y:Int)<3) && !decide ((y:Int)=1)) && !(decide ((z:Int)<3) && !decide ((z:Int)=2))))=true;rw[c0,c1,c2];rfl
  refine m6 (aH4 (t_b (E3 (d:=.bool (X8 0 ((rest dr os (i+3)).map (sec os (i+3))))) (A1 (A2 rfl) (A1 (A2 rfl) (A1 (K5 (g:=λi j=>i+j) A6 (A2 rfl)) A7))) ⟨m,dr,tr,os,i+3,dw,AR,by omega,by omega,by rw[show((i+3:Nat):Int)=3+(i:Int) by omega],rfl⟩))) (λh=>L9 aO5 ?_) (λh=>N1 ⟨λj hj=>?_,_,_,rfl⟩)
  ·have h:X8 0 ((rest dr os (i+3)).map (sec os (i+3)))=false:=by simpa using h
   show PyData.bool false=.bool (isO m dr os)
   rw[bad ?_];unfold aZ3;rw[h,Bool.and_false]
  ·by_cases e:j=i
   ·subst e;have h:X8 0 ((rest dr os (j+3)).map (sec os (j+3)))=true:=by simpa using h
    unfold aZ3;rw[hcr,h];rfl
   ·exact hok j (by omega)
 rintro _ ⟨hok,x2,x3,rfl⟩;have e:(T3 0 ((os.map tI).length:Int).toNat).length=m:=by rw[O0,hlo,AR.len];omega
 rw[e]at hok;refine L9 aO5 ?_;show PyData.bool true=.bool (isO m dr os)
 have:isO m dr os=true:=by
  unfold isO;rw[hb,Bool.true_and,Ac9];exact λv hv=>hok v (Ab5.mp hv)
 rw[this]
end
end K18
namespace L2
open PySem PySem.Spec PyProof.Rows
theorem bP2 {P:Program}{w:World}{K:PySem.W.Frag}{mg mb:Str->Option Value}{CX:CXT}{k:Nat}{fa a cT PT:Addr}{fd:FuncData}{x:Str}{sp:Sp}{s₁:Shared}{vs:List Value}{ns:List Int}
  (KX:K.In s₁.heap) (hns:s₁.heap.Ns mainGlobals mg) (hb:s₁.heap.Ns builtinsNs mb) (hbb:∀x:Str,x≠"__name__" -> mb x=bootBuiltins x) (hlim:s₁.heap.NoLimit) (hg:s₁.gens = #[])
  (hbm:∃bm ob,mg "__builtins__" = some (.ref bm)/\bm≠builtinsNs/\s₁.heap.get? bm=some ob/\ob.cls=.type "module" /\ ob.dict=some builtinsNs/\ob.data=.plain)
  (hC:PySem.W.CodeHd s₁.heap cT PT) (hP:s₁.heap.get? PT=some (PySem.W.tabObj #[])) (ht:PySem.W.tabIn K "triple_of" = some (cT,PT)) (hKP:K.lookup PT=none)
  (ha:s₁.heap.get? a=some {cls:=.type "list",data:=.seq vs.toArray}) (hi:IntsAre vs ns) (hl:ns.length<=sizeLine) (hr:Room k callerA)
  (F:∀base:Heap,K.In base->base.Ns mainGlobals mg->G3 P w K mg base CX k fa fd [x] sp) (hbind:∀(s:Shared) (u:Value),BindsTo s fd ⟨[u],[]⟩ [(x,u)])
  (hsp:∀H:Hp,SqL K H a (ns.map V.int)->sp [.ref a] H (λv _=>v=.bl true) λ_ _ _=>False)
  (hCX:∀H e s',CX [] H s₁ (λ_ _ _=>False) e s'->False) :
  codeAny (model P w) callerA (.call (.ref fa) ⟨[.ref a],[]⟩) (λr s'=>r=.ok (.ret (.bool true))/\OldK s₁.heap s'.heap/\s'.os=s₁.os/\AllBare s'.gens) s₁:=by
 have rv:=T4 hi
 have X3:=hi.length
 have aP:a≠PT:=λz=>by rw[z,hP]at ha;cases ha
 have core:∀H:Hp,H PT=some (.tbl #[.str "triple_of.<locals>.<lambda>" 0])->(∀b u,H b=some u->b=PT\/(b=a/\∃o xs,u=.frz o (.lst xs)))->SqL K H a (ns.map V.int)->HOk P w H s₁.heap->(H a≠none->K.lookup a=none) ->
   codeAny (model P w) callerA (.call (.ref fa) ⟨[.ref a],[]⟩) (λr s'=>r=.ok (.ret (.bool true))/\OldK s₁.heap s'.heap/\s'.os=s₁.os/\AllBare s'.gens) s₁:=by
  intro H hT hA hS hok hK;have base_of:∀{b:Addr} {o:Obj},s₁.heap.get? b=some o->H b=none->(aN5 s₁.heap H).get? b=some o:=λe n=>bX4 e n
  have noA:∀{b:Addr} {o:Obj},s₁.heap.get? b=some o->(∀vs n,o.data≠.seq vs n)->o≠PySem.W.tabObj #[]->H b=none:=λ{b o} e d1 d2=>by
   cases q:H b with
   | none=>rfl
   | some u=>
    rcases hA b u q with rfl | ⟨rfl,_⟩
    ·rw[hP]at e;cases e;exact absurd rfl d2
    ·rw[ha]at e;cases e;exact absurd rfl (d1 _ _)
  have nsK:∀{b:Addr} {m:Str->Option Value},s₁.heap.Ns b m->(aN5 s₁.heap H).Ns b m:=λ{b m} ⟨o,es,ep,e,d,r⟩=>
   ⟨o,es,ep,base_of e (noA e (λvs n z=>by rw[d]at z;cases z) λz=>by rw[z]at d;cases d),d,r⟩
  have hKb:K.In (aN5 s₁.heap H):=λb o e=>base_of (KX b o e) (by
   cases q:H b with
   | none=>rfl
   | some u=>
    rcases hA b u q with rfl | ⟨rfl,_⟩
    ·rw[hKP]at e;cases e
    ·rw[hK (by rw[q];simp)]at e;cases e)
  have hbm':∃bm ob,mg "__builtins__" = some (.ref bm)/\bm≠builtinsNs/\(aN5 s₁.heap H).get? bm=some ob/\ob.cls=.type "module" /\ ob.dict=some builtinsNs/\ob.data=.plain:=by
   obtain ⟨bm,ob,b1,b2,b3,b4,b5,b6⟩:=hbm;exact⟨bm,ob,b1,b2,base_of b3 (noA b3 (λvs n z=>by rw[b6]at z;cases z) λz=>by rw[z]at b4;cases b4),b4,b5,b6⟩
  have hCb:PySem.W.CodeHd (aN5 s₁.heap H) cT PT:=by
   obtain ⟨o,vs',file,tf,flags,tg,inF,text,tt,e,c1,c2,r⟩:=hC;exact⟨o,vs',file,tf,flags,tg,inF,text,tt,base_of e (noA e (λvs n z=>by rw[c2]at z;cases z) λz=>by rw[z]at c1;cases c1),c1,c2,r⟩
  have hM:Mod K mg (aN5 s₁.heap H):=⟨hKb,nsK hns,⟨mb,nsK hb,hbb⟩,let ⟨mc,h1,h2⟩:=hlim;⟨mc,nsK h1,h2⟩,hbm',λc P' e=>by rw[ht]at e;cases e;exact hCb⟩
  have e0:cB8 P w K mg (aN5 s₁.heap H) callerA [] s₁ H:=⟨rfl,hM,λb o e=>cB3 e,Nat.le_of_eq (bP7 _ _),trivial,λb hb=>absurd (show b∈([]:List Addr) from hb) (by simp),hok,.of_eq hg,
   λc P' e=>by rw[ht]at e;cases e;exact⟨_,0,hT,rfl⟩⟩
  refine codeAny_mono ((F _ hKb (nsK hns)).run callerA [] s₁ H ⟨[.ref a],[]⟩ [.ref a] [.ref a] _ _ hr e0 (hbind s₁ (.ref a)) (.cons rfl .nil) (hsp H hS)) λr s' h=>?_
  cases r with
  | error e=>exact(hCX H e s' h).elim
  | ok fl=>
   cases fl with
   | next=>exact False.elim h
   | brk=>exact False.elim h
   | cont=>exact False.elim h
   | ret u=>
    obtain ⟨v,H',os,bare,un,hok',r',q⟩:=h;have q':v=.bl true:=q;subst q';obtain rfl:u=Value.bool true:=r';have all:∀b o,s₁.heap.get? b=some o->b=PT\/s'.heap.get? b=some o:=λb o e=>by
     cases q:H b with
     | none=>exact .inr (un.keep b o e q (by intro z;exact absurd (show b∈([]:List Addr) from z) (by simp)) (by simp))
     | some u=>
      rcases hA b u q with z | ⟨_,ob,xs,rfl⟩
      ·exact .inl z
      ·obtain ⟨e1,_⟩:=hok b _ q;obtain ⟨e2,_⟩:=hok' b _ (un.frzs b ob _ q);rw[e]at e1;cases e1;exact .inr e2
    have tab:∃qs:Array Value,s'.heap.get? PT=some (PySem.W.tabObj qs):=by
     obtain ⟨more,e⟩:=un.tbls PT _ hT;obtain ⟨qs,e2,_⟩:=hok' PT _ e;exact⟨qs,e2⟩
    obtain ⟨qs,hqs⟩:=tab;refine⟨rfl,⟨λb o e=>?_,λb o e=>?_⟩,os,bare⟩
    ·rcases all b o e with rfl | z
     ·rw[hP]at e;cases e;exact .inr (.inl ⟨(hC.tab hP).isCodeTable,rfl,#[],qs,rfl,by rw[hqs];simp⟩)
     ·exact .inl z
    ·rcases all b o e with rfl | z
     ·exact⟨_,hqs⟩
     ·exact⟨_,z⟩
 have okT:∀H:Hp,ObjOk P w H s₁.heap PT (.tbl #[.str "triple_of.<locals>.<lambda>" 0]):=λH=>⟨#[],hP,trivial,λpos cv z=>by cases z⟩
 cases hk:K.lookup a with
 | some o=>
  have e:=KX a o hk
  rw[ha]at e;cases e;refine core (λb=>if b=PT then some (.tbl #[.str "triple_of.<locals>.<lambda>" 0]) else none) (if_pos rfl) (λb u z=>?_) (.inr ⟨_,vs.toArray,_,hk,rfl,rfl,rfl,by rw[Ab2,X3];exact hl,by simpa using rv⟩) (λb u z=>?_) (λz=>absurd (if_neg aP) z)
  ·by_cases hb:b=PT
   ·exact .inl hb
   ·have z':=(if_neg hb).symm.trans z;cases z'
  ·by_cases hb:b=PT
   ·have z':=(if_pos hb).symm.trans z
    cases z'
    subst hb;exact okT _
   ·have z':=(if_neg hb).symm.trans z;cases z'
 | none=>
  refine core (λb=>if b=PT then some (.tbl #[.str "triple_of.<locals>.<lambda>" 0]) else if b=a then some (.frz {cls:=.type "list",data:=.seq vs.toArray} (.lst (ns.map V.int))) else none) (if_pos rfl) (λb u z=>?_)
   (.inl (.inr ⟨{cls:=.type "list",data:=.seq vs.toArray},(if_neg aP).trans (if_pos rfl)⟩)) (λb u z=>?_) (λ_=>hk)
  ·by_cases hb:b=PT
   ·exact .inl hb
   ·have z':=(if_neg hb).symm.trans z
    by_cases hb2:b=a
    ·have z2:=(if_pos hb2).symm.trans z'
     cases z2
     exact .inr ⟨hb2,_,_,rfl⟩
    ·have z2:=(if_neg hb2).symm.trans z';cases z2
  ·by_cases hb:b=PT
   ·have z':=(if_pos hb).symm.trans z
    cases z'
    subst hb;exact okT _
   ·have z':=(if_neg hb).symm.trans z
    by_cases hb2:b=a
    ·have z2:=(if_pos hb2).symm.trans z'
     cases z2
     subst hb2;exact⟨ha,by rw[Aa3];exact hl,vs,_,rv,ha⟩
    ·have z2:=(if_neg hb2).symm.trans z';cases z2
theorem bZ7 {l:PySem.W.OpenLaw}{n k:Nat}{q:Program}{loose:List Str}{XP:(Str->Option Value)->Heap->Prop}{YP:World->Heap->Prop}{d dT:DefRec}{K:Params->PySem.W.Frag}{CX:World->CXT}{sp:World->Sp}{x:Str}
  (hn:l.most=some n) (hn2:n<=sizeLine) (hdf:d.params.defaults=[]) (hr:Room k callerA)
  (hY:∀(w:World) (h:Heap),YP w h->(K w.params).In h) (hrec:(recsOf q).find? (λe=>e.name==("triple_of" : Str))=some dT)
  (F:∀(w:World) (mg:Str->Option Value) (fa:Addr) (h:Heap),(K w.params).In h->h.Ns mainGlobals mg->mg d.name=some (.ref fa) ->
   ∃fd:FuncData,(∀(s:Shared) (u:Value),BindsTo s fd ⟨[u],[]⟩ [(x,u)])/\(∃cT PT,PySem.W.tabIn (K w.params) "triple_of" = some (cT,PT)/\(K w.params).lookup PT=none) /\
    ∀base:Heap,(K w.params).In base->base.Ns mainGlobals mg->G3 l.prog w (K w.params) mg base (CX w) k fa fd [x] (sp w))
  (hsp:∀(w:World) (H:Hp) (a:Addr) (ns:List Int),ns.length<=n->SqL (K w.params) H a (ns.map V.int)->sp w [.ref a] H (λv _=>v=.bl true) λ_ _ _=>False)
  (hCX:∀(w:World) (H:Hp) (s:Shared) (e:Value) (s':Shared),CX w [] H s (λ_ _ _=>False) e s'->False) :
  PySem.W.WalkO q loose XP YP l.row.toRowW d [] (λf vs=>PySem.call f vs):=by
 refine Att.bC7 hn hdf λw s₀ s₁ mg mb fa o pm cd doc a vs ns G Y ho hd hcd hmg hobj hints hlen hg=>?_
 have KX:=hY w _ Y
 obtain ⟨fd,hb,⟨cT,PT,ht,hk⟩,hF⟩:=F w mg fa _ KX G.T.g hmg;obtain ⟨hC,hP⟩:=PySem.W.tab_of G.T KX hrec ht;exact bP2 KX G.T.g G.T.b G.T.builtins G.T.nolimit hg G.T.bmain hC hP ht hk hobj hints (Nat.le_trans hlen hn2) hr hF hb (λH hS=>hsp w H a ns hlen hS) λH e s'=>hCX w H s₁ e s'
section
variable {P:Program}{w:World}{K:PySem.W.Frag}{mg:Str->Option Value}{base:Heap}
theorem Fun.okC {x qual:Str}{st:Stmt}{f:Addr}{fd:FuncData}{N ps:List Str}{k:Nat}{sp:Sp}(F:Fun K x qual st f fd)(S:D7 N ps (A9 st))(len:∀vs H Q E,sp vs H Q E->vs.length=ps.length)
  (hbody:∀(cdv:Value) (A:Around) (outer:List Env) (s:Shared) (H:Hp) (vs:List V) (Q:VK) (E:XK),fd.code=cdv->Room k (A.deeper (envOfC qual (A9 st) s.heap.objs.size f cdv))->sp vs H Q E ->
   ∃t,PSs (bG6 CX0 P w K mg base N qual (A9 st) f cdv A outer s H E).nox (D0 st) t/\t {nx:=λ_ H'=>Q .non H',rt:=Q} (W5 N vs) H):G3 P w K mg base CX0 (k+1) f fd ps sp:=by
 obtain ⟨oc,od,kV,doc,pm,an,cdv,ct,osl,rfl,lk,hcd⟩:=F.ex;refine cG1 lk hcd S len λA outer s H vs Q E hr hsp=>?_
 obtain ⟨t,h,q⟩:=hbody cdv A outer s H vs Q E rfl hr hsp;exact⟨t,h.nox,q⟩
theorem bU4 {x qual:Str}{st:Stmt}{f c T:Addr}{fd:FuncData}(KX:K.In base)(G:base.Ns mainGlobals mg)(m:mg x=some (.ref f))(F:Fun K x qual st f fd)(t:PySem.W.tabIn K x=some (c,T)):fd.code=.ref c:=by
 obtain ⟨oc,od,kV,doc,pm,an,cdv,ct,osl,rfl,lk,hcd⟩:=F.ex;unfold PySem.W.tabIn at t;split at t
 ·rename_i f' hf;have e1:=PySem.W.mg_of KX G hf;rw[m]at e1;cases e1;split at t
  ·rename_i fd' hfo;rw[lk]at hfo;cases hfo;split at t
   ·rename_i c2 hc;split at t
    ·split at t
     ·cases t;exact hc
     ·cases t
    ·cases t
   ·cases t
  ·cases t
 ·cases t
end
structure aL4 (X:Cx)(pins:List (Addr×Obj))(b:Addr):Prop where
 ge:X.s₀.heap.objs.size<=b
 loc:b≠X.env.locals
 cell:∀x c,X.env.cells.lookup x=some c->c≠b
 pin:∀p∈X.pn++pins,p.1≠b
 fr:b∉frs X.stack
section
variable {X:Cx}{pins:List (Addr×Obj)}{σ:St}{H:Hp}{s:Shared}
theorem Inv.ours (I:Inv X pins σ H s){b:Addr}(hb:s.heap.objs.size<=b):aL4 X pins b where
 ge:=Nat.le_trans I.sz hb
 loc:=Nat.ne_of_gt (Ab8 I.lt hb)
 cell:=λx c e z=>by
  obtain ⟨v,o,ho,_⟩:=I.cell x c e;rw[z]at ho;exact absurd (Ab8 (Ab3 ho) hb) (Ad9 _)
 pin:=λp hp z=>by
  have ho:=(I.pin p hp).1
  rw[z]at ho;exact absurd (Ab8 (Ab3 ho) hb) (Ad9 _)
 fr:=λz=>by
  obtain ⟨_,o,ho,_⟩:=I.stack.mem z;exact absurd (Ab8 (Ab3 ho) hb) (Ad9 _)
theorem Inv.turn1 {h':Heap}{it:Addr}(I:Inv X pins σ H s)(O:aL4 X pins it)(hn:H it=none)(sb:Heap.SameBut it s.heap h'):Inv X pins σ H {s with heap:=h'}:=
 I.turned (t':=s.toks) (λb o n e=>(sb.2 b n).trans e) hn O.loc (.inr O.ge) O.cell O.pin
theorem Inv.track {a:Addr}{o:HO}(I:Inv X pins σ H s)(O:aL4 X pins a)(hn:H a=none)(new:ObjOk X.prog X.w (upd H a o) s.heap a o):Inv X pins σ (upd H a o) s:=by
 have ne:∀b u,H b=some u->b≠a:=λb u e=>C8 e hn
 refine⟨I.ok,I.os,I.bare,⟨I.base.keep,I.base.slot,λb ob q n hx=>?_,I.base.there,λb xs q=>?_,λb ob u q=>?_,λb ps q=>?_⟩,I.loc,I.cell,?_,λx c e=>?_,λp hp=>?_,λb u e=>?_,I.len⟩
 ·rw[B0 (Ab9 (Ab8 (Ab3 q) O.ge))];exact I.base.free b ob q n hx
 ·have e:=I.base.tups b xs q
  rw[B0 (ne b _ e)];exact e
 ·have e:=I.base.frzs b ob u q
  rw[B0 (ne b _ e)];exact e
 ·obtain ⟨more,e⟩:=I.base.tbls b ps q;exact⟨more,by rw[B0 (ne b _ e)];exact e⟩
 ·rw[B0 (Ne.symm O.loc)];exact I.free
 ·rw[B0 (O.cell x c e)];exact I.freeC x c e
 ·obtain ⟨e,n,r⟩:=I.pin p hp;exact⟨e,by rw[B0 (O.pin p hp)];exact n,r⟩
 ·by_cases hb:b=a
  ·subst hb;rw[C0]at e;cases e;exact new
  ·rw[B0 hb]at e;exact(I.hok b u e).stay (λ_ _ _ q=>q) (λc q=>by rw[B0 (ne c _ q)];exact q) λc u' _ q=>by rw[B0 (ne c _ q)];exact q
end
theorem aR1 {pos pos':Pos}{c cv:Value}:∀{l:List Value},TriplesOk l->codeAmong pos' (l++[rawInt pos.line,rawInt pos.col,c])=some cv->codeAmong pos' l=some cv\/cv=c
 | [],_,h=>by
  have h':(if((pos.line:Int)==pos'.line&&(pos.col:Int)==pos'.col)=true then some c else none)=some cv:=h
  split at h'
  ·exact .inr (Ab4 h').symm
  ·cases h'
 | .int a t :: .int b u::d::rest,ht,h=>by
  have h':(if(a==pos'.line&&b==pos'.col)=true then some d else codeAmong pos' (rest++[rawInt pos.line,rawInt pos.col,c]))=some cv:=h
  show(if(a==pos'.line&&b==pos'.col)=true then some d else codeAmong pos' rest)=some cv\/_
  split at h'
  ·rename_i hh;rw[if_pos hh];exact .inl h'
  ·rename_i hh;rw[if_neg hh];exact aR1 (l:=rest) ht h'
abbrev cP3 (X:Cx)(params:Arguments)(body:Expr)(scope:Scope)(cl:List (Str×Addr))(c':Addr)(ctv:Value):Obj:=
 PySem.W.kla_obj "<lambda>" (X.env.qual ++ "<lambda>") params body scope cl ((X.mg "__name__").getD .none) c' ctv
section
variable {X:Cx}{pins:List (Addr×Obj)}{σ:St}{H:Hp}{s:Shared}
theorem bY0 {c P:Addr}{params:Arguments}{body:Expr}{scope:Scope}{lpos:Pos}{cl:List (Str×Addr)}{Q:Value->Shared->Prop}{E:Value->Shared->Prop}(I:Inv X pins σ H s)(hcode:X.env.code=.ref c)(ht:PySem.W.tabIn X.K "triple_of" = some (c,P))
  (hq:X.env.qual ++ "<lambda>" = ("triple_of.<locals>.<lambda>" : Str)) (hcl:closureFor scope X.env=pure cl) (hdef:defaultsOf params X.env=([],[]))
  (h:∀(f c':Addr) (ctv:Value) (H':Hp) (s':Shared),Inv X pins σ H' s'->Same H H'->s'.heap.get? f=some (cP3 X params body scope cl c' ctv)->H' f=none->aL4 X pins f->H' c'=some (.cod (X.env.qual ++ "<lambda>"))->Q (.ref f) s') :
  wpAny (model X.prog X.w) X.A (eval (.Lambda params body scope lpos) X.env) Q E s:=by
 obtain ⟨ps,t,hP,hps⟩:=I.tab c P ht;obtain ⟨qs,hPo,htr,hgood⟩:=I.hok P _ hP;have hC:PySem.W.CodeHd s.heap c P:=(I.ok.mod.tbc c P ht).keeps I.bk;have hg:s.heap.Ns mainGlobals X.mg:=I.ok.mod.glob.keeps I.bk;obtain ⟨bm,ob,b1,b2,b3,b4,b5,b6⟩:=I.ok.mod.bm;have hgP:mainGlobals≠P:=λq=>by
  obtain ⟨o,es,ep,e,hd,_⟩:=hg;rw[q,hPo]at e;cases e;cases hd
 have hbP:bm≠P:=λq=>by
  have e:=I.bk _ _ b3
  rw[q,hPo]at e;cases e;cases b4
 have hbG:bm≠mainGlobals:=λq=>by
  obtain ⟨o,es,ep,e,hd,_⟩:=hg;have e2:=I.bk _ _ b3;rw[q,e]at e2;cases e2;rw[hd]at b6;cases b6
 have hB:s.heap.BuiltinsAt X.mg P:=⟨bm,ob,b1,b2,hbG,hbP,I.bk _ _ b3,b4,b5,b6⟩
 refine PySem.W.kla_eval hdef ?_;cases hca:codeAmong lpos qs.toList with
 | some cv=>
  obtain ⟨c',q,t',rfl,hHc,hps'⟩:=hgood lpos cv hca;rw[hps]at hps';cases hps';refine PySem.W.kla_makeFunctionHit (mg:=X.mg) hcl I.ok.glob hg hcode hC hPo htr hca hB λctv h' tk hk hsz=>?_
  exact h _ c' ctv H _ (I.kept (t':=tk) λb u e=>Aa6 _ (hk b u e)) (λ_ _ e=>e) (Ac3 _ rfl) (I.hok.fresh hsz) (I.ours hsz) (by rw[hq];exact hHc)
 | none=>
  refine PySem.W.kla_makeFunction (mg:=X.mg) hcl I.ok.glob hg hcode hC hPo htr hca hgP hB λc' ctv h' tk hx hge hlt hrec htb=>?_
  have hsz:s.heap.objs.size<=h'.objs.size:=Nat.le_trans hge (Nat.le_of_lt hlt)
  have fc:H c'=none:=I.hok.fresh hge
  have ne:∀b u,H b=some u->b≠c':=λb u e=>C8 e fc
  have lt:∀b o,s.heap.get? b=some o->b≠c':=λb o e=>Ab9 (Ab8 (Ab3 e) hge)
  have keep:∀b o,b≠P->s.heap.get? b=some o->∀fo:Obj,(h'.push fo).get? b=some o:=λb o n e fo=>Aa6 _ (hx b o n e)
  have nP:∀b,H b=none->b≠P:=λb n z=>by rw[z,hP]at n;cases n
  have cP:P≠c':=ne P _ hP
  refine h _ c' ctv (upd H c' (.cod (X.env.qual ++ "<lambda>"))) _ (I.un (t':=tk) ⟨λb o e n _ _=>keep b o (nP b n) e _,λb o e n _ _=>⟨o.slots,keep b o (nP b n) e _⟩,λb o e n _=>by rw[B0 (lt b o e)];exact n,λb o e _=>?_,λb xs e=>by rw[B0 (ne b _ e)];exact e,
   λb o u e=>by rw[B0 (ne b _ e)];exact e,λb ps' e=>⟨#[],by rw[B0 (ne b _ e),e];simp⟩⟩ λb u e=>?_) (λb u e=>by rw[B0 (ne b _ e)];exact e) (Ac3 _ rfl) ?_ (I.ours hsz) C0
  ·by_cases hb:b=P
   ·subst hb;exact⟨_,Aa6 _ htb⟩
   ·exact⟨o,keep b o hb e _⟩
  ·by_cases hb:b=c'
   ·subst hb;rw[C0]at e;cases e;exact hrec.push _
   ·rw[B0 hb]at e;by_cases hbP:b=P
    ·subst hbP;rw[hP]at e;cases e;refine⟨_,Aa6 _ htb,?_,λpos cv z=>?_⟩
     ·have q:=TriplesOk_snoc lpos.line lpos.col (.ref c') qs.toList htr
      simpa using q
     ·have z':codeAmong pos (qs.toList++[rawInt lpos.line,rawInt lpos.col,.ref c'])=some cv:=by simpa using z
      rcases aR1 htr z' with z2 | rfl
      ·obtain ⟨c2,q2,t2,e1,e2,e3⟩:=hgood pos cv z2;exact⟨c2,q2,t2,e1,by rw[B0 (ne _ _ e2)];exact e2,e3⟩
      ·exact⟨c',_,t,rfl,C0,by rw[hps,hq]⟩
    ·refine(I.hok b u e).stay (λc2 v hc q=>keep c2 v ?_ q _) (λc2 q=>by rw[B0 (ne _ _ q)];exact q) λc2 u' _ q=>by rw[B0 (ne _ _ q)];exact q
     rcases hc with rfl | hc
     ·exact hbP
     ·rintro rfl;rw[hP]at hc;cases hc
  ·rw[B0 (Nat.ne_of_gt hlt)];exact I.hok.fresh hsz
end
structure LScope (X:Cx)(scope:Scope)(cl:List (Str×Addr))(x:Str)(is:List Nat)(N':List Str):Prop where
 clos:closureFor scope X.env=pure cl
 cell:∀y∈scope.names,y.2≠.cell
 kind:scope.kind=.function
 co:scope.isCoroutine=false
 gen:scope.isGenerator=false
 par:scope.names.lookup x=some .local
 cap:∀x c,cl.lookup x=some c->X.env.cells.lookup x=some c
 has:∀x,(scope.names.lookup x=some .cell\/scope.names.lookup x=some .free)->∃c,cl.lookup x=some c
 N:N'=x::is.map λ(i:Nat)=>((X.N[i]?).getD Str.empty:Str)
 lt:∀i∈is,i<X.N.length
 capt:∀i∈is,∀x,X.N[i]? = some x->scope.names.lookup x=some .free/\(X.env.kindOf x=some .cell\/X.env.kindOf x=some .free)
theorem LScope.of {X:Cx}{scope:Scope}{cl:List (Str×Addr)}{x:Str}{N':List Str}{is:List Nat}(clos:closureFor scope X.env=pure cl)(kind:scope.kind=.function)(co:scope.isCoroutine=false)(gen:scope.isGenerator=false)(par:scope.names.lookup x=some .local)
  (c1:scope.names.all (λy=>y.2 != .cell&&(y.2 != .free||(cl.lookup y.1).isSome))=true) (c3:AllP (λp=>X.env.cells.lookup p.1=some p.2) cl)
  (c5:N'=x::is.map λ(i:Nat)=>((X.N[i]?).getD Str.empty:Str)) (c6:is.all (λi=>decide (i<X.N.length))=true)
  (c7:AllP (λi=>∃x,X.N[i]? = some x/\scope.names.lookup x=some .free/\(X.env.kindOf x=some .cell\/X.env.kindOf x=some .free)) is):LScope X scope cl x is N' where
 clos:=clos
 cell:=λy hy e=>by
  have h:=Ac9.mp c1 y hy
  rw[e]at h;simp at h
 kind:=kind
 co:=co
 gen:=gen
 par:=par
 cap:=λx c h=>c3.mem (x,c) (M4 h)
 has:=λy h=>by
  rcases h with h | h
  ·have q:=Ac9.mp c1 (y,.cell) (M4 h)
   simp at q
  ·have q:=Ac9.mp c1 (y,.free) (M4 h)
   simp only[bne_self_eq_false,Bool.false_or,Bool.and_eq_true]at q;exact Option.isSome_iff_exists.mp q.2
 N:=c5
 lt:=λi hi=>of_decide_eq_true (Ac9.mp c6 i hi)
 capt:=λi hi y e=>by
  obtain ⟨z,e',h1,h2⟩:=c7.mem i hi;rw[e]at e';cases e';exact⟨h1,h2⟩
abbrev cC5 (X:Cx)(scope:Scope)(cl:List (Str×Addr))(L f c':Addr):Env:=PySem.W.envX (X.env.qual ++ "<lambda>") scope L f (.ref c') cl
def cxL (X:Cx)(N':List Str)(scope:Scope)(cl:List (Str×Addr))(L f c':Addr)(s:Shared)(H:Hp):Cx:=
 {X with A:=X.A.in1.in1.deeper (cC5 X scope cl L f c'),N:=N',s₀:=s,H₀:=H,env:=cC5 X scope cl L f c',outer:=X.stack,stack:=cC5 X scope cl L f c'::X.stack,ex:=[],fn:=λ_=>false,calm:=true,pn:=[],xe:=λ_ _=>False}
section
variable {X:Cx}{pins:List (Addr×Obj)}{σ:St}{H:Hp}{s:Shared}
theorem cF4 {k:Nat}{scope:Scope}{cl:List (Str×Addr)}{x:Str}{is:List Nat}{N':List Str}{L f c':Addr}{h₁:Heap}{tk:Nat}{v:V}{u:Value}(S:LScope X scope cl x is N')(I:Inv X pins σ H s)(hr:Room k X.A)(rv:RelV v u)(hL:s.heap.objs.size=L)
  (hns:h₁.Ns L λy=>[(x,u)].reverse.lookup y) (old:∀b o,s.heap.get? b=some o->h₁.get? b=some o) :
  Inv (cxL X N' scope cl L f c' s H) [] (some v::is.map λi=>(σ[i]?).getD none) H {s with heap:=h₁,toks:=tk}:=by
 have hLs:s.heap.objs.size<=L:=Nat.le_of_eq hL
 have noA:∀b:Addr,b∉(cxL X N' scope cl L f c' s H).ex:=λb z=>absurd (show b∈([]:List Addr) from z) (by simp)
 refine⟨⟨I.ok.mod,S.kind,rfl,rfl,hLs,λy z c h1 h2=>I.ok.inj y z c (S.cap y c h1) (S.cap z c h2),S.has,(λy c h=>by cases h),λ_=>hr.hd,Around.frames_deeper (show X.A.in1.in1.frames=some X.stack from I.ok.frames),.inr ⟨rfl,rfl⟩,λb z=>absurd z (noA b),λb o e=>I.bs b o e,
  Nat.le_trans I.ok.bsz I.sz,λb _ _=>noA b,λb z=>absurd z (noA b),I.stack,I.stkFree,I.tab⟩,rfl,I.bare,Un.kept old,⟨_,hns,λi y v' e1 e2 e3=>?_⟩,λy c h=>?_,I.hok.fresh hLs,λy c h=>I.freeC y c (S.cap y c h),λp hp=>absurd (show p∈([]:List (Addr×Obj)) from hp) (by simp),I.hok.kept old,?_⟩
 ·have e1:N'[i]? = some y:=e1
  rw[S.N]at e1;cases i with
  | zero=>
   simp only[List.getElem?_cons_zero,Option.some.injEq]at e1 e2;subst e1 e2;exact⟨u,rv,.inl ⟨S.par,by simp[List.lookup]⟩⟩
  | succ j=>
   simp only[List.getElem?_cons_succ,Aa9]at e1 e2;cases ek:is[j]? with
   | none=>rw[ek]at e2;cases e2
   | some n=>
    rw[ek]at e1 e2;have hk:n∈is:=List.mem_of_getElem? ek;have hlt:=S.lt n hk;have eN:X.N[n]? = some y:=by
     simp only[Option.map_some,Option.some.injEq]at e1;rw[Aa2 hlt]at e1 ⊢;simpa using e1
    have es:σ[n]? = some (some v'):=by
     simp only[Option.map_some,Option.some.injEq]at e2;cases q:σ[n]? with
     | none=>rw[q]at e2;cases e2
     | some z=>rw[q]at e2;exact congrArg some e2
    obtain ⟨c1,c2⟩:=S.capt n hk y eN;obtain ⟨m',hn',hl'⟩:=I.loc;obtain ⟨w',r,l⟩:=hl' n y v' eN es (.inr c2);refine⟨w',r,.inr ⟨.inr c1,?_⟩⟩;rcases l with ⟨k1,_⟩ | ⟨_,c,hc,hcell⟩
    ·rcases c2 with c2 | c2 <;> rw[k1]at c2 <;> cases c2
    ·obtain ⟨c2',hc'⟩:=S.has y (.inr c1)
     have:c2'=c:=Ab4 ((S.cap y c2' hc').symm.trans hc)
     subst this;exact⟨c2',hc',hcell.keeps old⟩
 ·obtain ⟨v',q⟩:=I.cell y c (S.cap y c h);exact⟨v',q.keeps old⟩
 ·show(some v::is.map λi=>(σ[i]?).getD none).length=N'.length
  rw[S.N]
  simp
theorem bZ3 {k:Nat}{params:Arguments}{body:Expr}{scope:Scope}{cl:List (Str×Addr)}{x:Str}{is:List Nat}{N':List Str}{f c':Addr}{ctv:Value}{te:TE}{v:V}{u:Value}{Q:VK}(S:LScope X scope cl x is N')(I:Inv X pins σ H s)(hr:Room (k+3) X.A)
  (hfo:s.heap.get? f=some (cP3 X params body scope cl c' ctv)) (hc:H c'=some (.cod (X.env.qual ++ "<lambda>")))
  (hbind:∀(nm q:Str) (pm cdv ct u:Value),bindArgs (PySem.W.kla_fn nm q params body scope cl pm cdv ct) ⟨[u],[]⟩=pure [(x,u)])
  (hb:∀L f c' s H,PE (cxL X N' scope cl L f c' s H) body te) (rv:RelV v u) (h:te (some v::is.map λi=>(σ[i]?).getD none) H Q) :
  wpAny (model X.prog X.w) X.A.in1.in1 (call (.ref f) [u]) (λr s'=>∃y H',Inv X pins σ H' s'/\RelV y r/\Q y H'/\∀b o,s.heap.get? b=some o->H b=none->b∉frs X.stack->s'.heap.get? b=some o/\H' b=none) (λ_ _=>False) s:=by
 have hcd:s.heap.CodeRec (.ref c') (X.env.qual ++ "<lambda>"):=I.hok c' _ hc
 refine wpAny_call (PySem.W.kla_callFunE (hr.in1.in1.depth) hfo rfl S.co S.gen rfl hcd ?_);rw[hbind];refine wpAny_pure (wpAny_newFunctionEnv S.cell (λy hy=>by rw[Ad8.mp hy];exact S.par) (λh₁ hns hsb=>⟨?_,?_⟩) S.kind)
 ·exact I.nolimit.fresh _ hsb
 ·show codeAny _ _ (.expr body (cC5 X scope cl s.heap.objs.size f c')) _ _
  have old:∀b o,s.heap.get? b=some o->h₁.get? b=some o:=λb o e=>hsb.extBut b o (Ab9 (Ab3 e)) (Aa6 _ e)
  have J:=cF4 (f:=f) (c':=c') (tk:=s.toks+1) S I (hr.mono (Aa7 _)) rv rfl hns old
  refine PySem.W.kla_codeExpr (wpAny_mono ((hb _ f c' s H).run [] _ _ _ _ J h) (λr s' ⟨y,H',J',ry,q⟩=>?_) λ_ _ z=>False.elim z)
  obtain ⟨hh,g,dd,tt,os'⟩:=s';have os2:os'=s.os:=J'.os;subst os2;have un:Un (frs X.stack) [] H H' s.heap hh:=J'.base;exact⟨y,H',I.call (h':=hh) (g':=g) (d':=dd) (t':=tt) (ch:=[]) un J'.hok J'.bare (λb z=>absurd z (by simp)),ry,q,λb o e n nf=>⟨un.keep b o e n nf (by simp),un.free b o e n (by simp)⟩⟩
end
end L2
set_option maxHeartbeats 4000000
namespace L2
open PySem PySem.Spec PyProof.Rows
def SkI (X:Cx)(pins:List (Addr×Obj))(σ:St)(H:Hp)(a kS f:Addr)(fo oa ok:Obj)(s':Shared):Prop:=
 ∃H1,Inv X pins σ H1 s'/\Same H H1/\(H1 a=none/\s'.heap.get? a=some oa)/\(H1 kS=none/\s'.heap.get? kS=some ok)/\H1 f=none/\s'.heap.get? f=some fo
section
variable {X:Cx}{pins:List (Addr×Obj)}{σ:St}{H:Hp}{a kS f:Addr}{fo oa ok:Obj}{s:Shared}
theorem SkI.setK {h':Heap}{ok':Obj}(x:SkI X pins σ H a kS f fo oa ok s)(O:aL4 X pins kS)(na:a≠kS)(nf:f≠kS)(sb:Heap.SameBut kS s.heap h')(e:h'.get? kS=some ok'):SkI X pins σ H a kS f fo oa ok' {s with heap:=h'}:=by
 obtain ⟨H1,I,sm,⟨a1,a2⟩,⟨k1,k2⟩,f1,f2⟩:=x;exact⟨H1,I.turn1 O k1 sb,sm,⟨a1,(sb.2 a na).trans a2⟩,⟨k1,e⟩,f1,(sb.2 f nf).trans f2⟩
theorem SkI.setA {h':Heap}{oa':Obj}(x:SkI X pins σ H a kS f fo oa ok s)(O:aL4 X pins a)(nk:kS≠a)(nf:f≠a)(sb:Heap.SameBut a s.heap h')(e:h'.get? a=some oa'):SkI X pins σ H a kS f fo oa' ok {s with heap:=h'}:=by
 obtain ⟨H1,I,sm,⟨a1,a2⟩,⟨k1,k2⟩,f1,f2⟩:=x;exact⟨H1,I.turn1 O a1 sb,sm,⟨a1,e⟩,⟨k1,(sb.2 kS nk).trans k2⟩,f1,(sb.2 f nf).trans f2⟩
theorem SkI.atA (x:SkI X pins σ H a kS f fo oa ok s):s.heap.get? a=some oa:=by obtain ⟨_,_,_,⟨_,z⟩,_⟩:=x;exact z
theorem SkI.atK (x:SkI X pins σ H a kS f fo oa ok s):s.heap.get? kS=some ok:=by obtain ⟨_,_,_,_,⟨_,z⟩,_⟩:=x;exact z
structure Sk3 (X:Cx)(pins:List (Addr×Obj))(a kS f:Addr):Prop where
 oa:aL4 X pins a
 ok:aL4 X pins kS
 ak:a≠kS
 af:a≠f
 kf:kS≠f
variable {A:Around}{E:Value->Shared->Prop}{P:PySem.Fin->Shared->Prop}{vs:List Value}{kz:List Int}{ks:Array Value}{e e1:Nat}
theorem bM9 {st:SortSt}(x:SkI X pins σ H a kS f fo (seqObj "list" #[] e1) (seqObj "list" ks e) s)(w3:Sk3 X pins a kS f)(hi:IntsAre ks.toList kz)(hl:kz.length=vs.length)(h6:vs.length<64)
  (hp:(arrOf st).Perm (ks.zip vs.toArray)) (ho:SortedTo (arrOf st) (arrOf st).size) (hf:failedOf st=none)
  (h:∀s' out c ok',SkI X pins σ H a kS f fo (seqObj "list" out c) ok' s'->KskOut false kz vs out.toList->P (.done (.ret .none)) s'):wpAny (model X.prog X.w) A (ksk_tail a false e1 (.ref kS) st) P E s:=by
 have zk:ks.size=vs.length:=by
  have q:=hi.length
  rw[Array.length_toList]at q;exact q.trans hl
 have zo:((arrOf st).map (·.2)).size=vs.length:=by
  rw[Array.size_map,hp.size_eq,Array.size_zip,zk,Ab2];exact Nat.min_self _
 have x1:=x.setK w3.ok w3.ak w3.kf.symm (Heap.SameBut.update s.heap kS (Obj.mapSeq λ_=>(#[]:Array Value))) (get?_update_seq x.atK λ_ => #[])
 have x2:=x1.setA w3.oa w3.ak.symm w3.af.symm (Heap.SameBut.update _ a (Obj.mapSeq λ_=>(arrOf st).map (·.2))) (get?_update_seq x1.atA λ_=>(arrOf st).map (·.2))
 unfold ksk_tail;simp only[Bool.false_eq_true,if_false];refine wpAny_bind (listUpdate_at x.atK rfl ?_ (by rw[zk,sizeLine_eq];omega) (Nat.zero_le _))
 refine wpAny_bind (wpAny_letGo (wpAny_bind (seqEpoch_at x1.atA rfl ?_)));refine wpAny_bind (listUpdate_at x1.atA rfl ?_ (Nat.zero_le _) (by rw[zo,sizeLine_eq];omega))
 rw[hf];simp only[bne_self_eq_false,Bool.false_eq_true,if_false];refine wpAny_pure (h _ _ _ _ x2 ?_);have q:=ksk_out (b:=false) hi hp ho;simpa only[Bool.false_eq_true,if_false]using q
theorem cL7 (x:SkI X pins σ H a kS f fo (seqObj "list" #[] e1) (seqObj "list" ks e) s)(w3:Sk3 X pins a kS f)(hi:IntsAre ks.toList kz)(hl:kz.length=vs.length)(h6:vs.length<64)
  (h:∀s' out c ok',SkI X pins σ H a kS f fo (seqObj "list" out c) ok' s'->KskOut false kz vs out.toList->P (.done (.ret .none)) s'):wpAny (model X.prog X.w) A (ksk_end a false vs.toArray e1 (.ref kS) ks) P E s:=by
 have zk:ks.size=vs.length:=by
  have q:=hi.length
  rw[Array.length_toList]at q;exact q.trans hl
 have zz:(ks.zip vs.toArray).size=vs.length:=by rw[Array.size_zip,zk,Ab2];exact Nat.min_self _
 unfold ksk_end;simp only[Bool.false_eq_true,if_false];by_cases few:vs.toArray.size<2
 ·simp only[if_pos few];refine wpAny_bind (wpAny_pure ?_);rw[StateT.run_pure];refine wpAny_bind (wpAny_pure ?_);refine bM9 (st:=SortSt.mk' general' (ks.zip vs.toArray) #[] 7 none) x w3 hi hl h6 (Array.Perm.refl _) (λi j hij hj=>?_) rfl h
  have hj2:j<(ks.zip vs.toArray).size:=hj
  rw[zz]at hj2;rw[Ab2]at few;obtain rfl:i=j:=by omega
  exact Int.le_refl _
 ·simp only[if_neg few];rw[Ab2]at few;rw[ksk_kind hi (by rw[zk];exact Nat.le_of_not_lt few)]
  refine wpAny_bind (wpAny_pure (wpAny_bind (wpAny_mono (wpS_sortRuns (a₀:=ks.zip vs.toArray) (st:=SortSt.mk' oneType' (ks.zip vs.toArray) #[] 7 none) (Q:=λ_ u=>(arrOf u).Perm (ks.zip vs.toArray)/\failedOf u=none/\SortedTo (arrOf u) (ks.zip vs.toArray).size)
   (ksk_intKeys hi) ⟨Array.Perm.refl _,rfl,rfl,rfl⟩ (by rw[zz];exact Nat.le_of_not_lt few) (by rw[zz];exact h6) λu q1 q2 q3=>⟨q1,q2,q3⟩) ?_ λ_ _ z=>z)))
  rintro ⟨⟨⟩,u⟩ s' ⟨rfl,q1,q2,q3⟩;exact bM9 x w3 hi hl h6 q1 (by rw[q1.size_eq];exact q3) q2 h
theorem cC9 (x:SkI X pins σ H a kS f fo (seqObj "list" #[] e1) (seqObj "list" #[] 0) s)(w3:Sk3 X pins a kS f)(hl:kz.length=vs.length)(h6:vs.length<64)
  (turn:∀(i:Nat) (v:Value) (k:Int),vs[i]? = some v->kz[i]? = some k->∀(s':Shared) (ob:Obj),SkI X pins σ H a kS f fo (seqObj "list" #[] e1) ob s' ->
   wpAny (model X.prog X.w) A (call (.ref f) [v]) (λr s''=>(∃t,r=.int k t)/\SkI X pins σ H a kS f fo (seqObj "list" #[] e1) ob s'') (λ_ _=>False) s')
  (h:∀s' out c ok',SkI X pins σ H a kS f fo (seqObj "list" out c) ok' s'->KskOut false kz vs out.toList->P (.done (.ret .none)) s'):wpAny (model X.prog X.w) A (ksk_rest a (.ref f) false vs.toArray e1 (.ref kS)) P E s:=by
 unfold ksk_rest;refine wpAny_bind (wpAny_rule ?_);rw[List.forIn_toArray];refine wpAny_bind (ksk_fold (λi s'=>∃kA ep,SkI X pins σ H a kS f fo (seqObj "list" #[] e1) (seqObj "list" kA ep) s'/\IntsAre kA.toList (kz.take i)) vs 0 s ⟨#[],0,x,by simpa using IntsAre.nil⟩ ?go ?fin)
 case go=>
  rintro j v s' hv ⟨kA,ep,x',hi'⟩;simp only[Nat.zero_add]at hi' ⊢;have hj:j<vs.length:=(Ab0.mp hv).1;obtain ⟨n,hn⟩:∃n,kz[j]? = some n:=⟨_,Aa2 (by omega)⟩
  have hz:kA.size<=vs.length:=by
   have q:=hi'.length
   rw[Array.length_toList,Ad1]at q;omega
  refine wpAny_bind (wpAny_attempt (wpAny_mono (turn j v n hv hn s' _ x') (λr s'' ⟨⟨t,hr⟩,x2⟩=>?_) λ_ _ z=>z.elim))
  subst hr;have x3:=x2.setK w3.ok w3.ak w3.kf.symm (Heap.SameBut.update _ kS (Obj.mapSeq (·.push (.int n t)))) (get?_update_seq x2.atK (·.push (.int n t)));have et:kz.take (j+1)=kz.take j++[n]:=by rw[List.take_add_one,hn];rfl
  have ea:(kA.push (Value.int n t)).toList=kA.toList++[Value.int n t]:=Array.toList_push ..
  refine wpAny_bind (listUpdate_at x2.atK rfl ?_ (by rw[sizeLine_eq];omega) (by rw[Array.size_push,sizeLine_eq];omega))
  exact wpAny_pure ⟨rfl,_,_,x3,by rw[ea,et];exact ksk_snoc hi'⟩
 case fin=>
  rintro s' ⟨kA,ep,x',hi'⟩;have hi2:IntsAre kA.toList kz:=by
   rw[List.take_of_length_le (by omega)]at hi'
   exact hi'
  exact wpAny_bind (listItems_at x'.atK rfl (cL7 x' w3 hi2 hl h6 h))
theorem cE5 {H1:Hp}{n:Nat}(I:Inv X pins σ H1 s)(sm:Same H H1)(a1:H1 a=none)(a2:s.heap.get? a=some (seqObj "list" vs.toArray n))(f1:H1 f=none)(f2:s.heap.get? f=some fo)(O:aL4 X pins a)(af:a≠f)(hl:kz.length=vs.length)(h6:vs.length<64)
  (turn:∀(kS:Addr) (e1:Nat),Sk3 X pins a kS f->∀(i:Nat) (v:Value) (k:Int),vs[i]? = some v->kz[i]? = some k->∀(s':Shared) (ob:Obj),SkI X pins σ H a kS f fo (seqObj "list" #[] e1) ob s' ->
   wpAny (model X.prog X.w) A (call (.ref f) [v]) (λr s''=>(∃t,r=.int k t)/\SkI X pins σ H a kS f fo (seqObj "list" #[] e1) ob s'') (λ_ _=>False) s')
  (h:∀kS s' out c ok',SkI X pins σ H a kS f fo (seqObj "list" out c) ok' s'->KskOut false kz vs out.toList->P (.done (.ret .none)) s'):wpAny (model X.prog X.w) A (ksk_tree a (.ref f) false) P E s:=by
 have sb:=Heap.SameBut.update s.heap a (Obj.mapSeq λ_=>(#[]:Array Value))
 have a3:=get?_update_seq a2 λ_ => #[]
 have I2:=I.turn1 O a1 sb
 have f3:(s.heap.update a (Obj.mapSeq λ_=>(#[]:Array Value))).get? f=some fo:=(sb.2 f af.symm).trans f2
 generalize hg:s.heap.update a (Obj.mapSeq λ_=>(#[]:Array Value))=g at *
 have I3:Inv X pins σ H1 {s with heap:=g.push {cls:=.type "tuple",data:=.seq vs.toArray}}:=I2.kept (t':=s.toks) λb u q=>Aa6 _ q
 have I4:Inv X pins σ H1 {s with heap:=(g.push {cls:=.type "tuple",data:=.seq vs.toArray}).push {cls:=.type "list",data:=.seq ([]:List Value).toArray}}:=I3.kept (t':=s.toks) λb u q=>Aa6 _ q
 have la:=Ab3 a3
 have lf:=Ab3 f3
 have zg:(g.push {cls:=.type "tuple",data:=.seq vs.toArray}).objs.size=g.objs.size+1:=Heap.size_push ..
 unfold ksk_tree;refine wpAny_bind (listItems_at a2 rfl ?_);refine wpAny_bind (listUpdate_at a2 rfl ?_ (by rw[Ab2,sizeLine_eq];omega) (Nat.zero_le _))
 rw[hg];refine wpAny_bind (seqEpoch_at a3 rfl ?_);refine wpAny_bind (wpAny_newTuple ?_ (by show vs.length<=_;rw[sizeLine_eq];omega))
 refine wpAny_bind (wpAny_newList ?_ (Nat.zero_le _));have w3:Sk3 X pins a (g.push {cls:=.type "tuple",data:=.seq vs.toArray}).objs.size f:=⟨O,I3.ours (Aa7 _),by rw[zg];exact Ab9 (Nat.lt_succ_of_lt la),af,by rw[zg];exact Nat.ne_of_gt (Nat.lt_succ_of_lt lf)⟩
 exact wpAny_holding (cC9 (kS:=(g.push {cls:=.type "tuple",data:=.seq vs.toArray}).objs.size) ⟨H1,I4,sm,⟨a1,Aa6 _ (Aa6 _ a3)⟩,⟨I3.hok.fresh (Aa7 _),Ac3 _ rfl⟩,f1,Aa6 _ (Aa6 _ f3)⟩ w3 hl h6 (turn _ _ w3) (h _))
end
section
variable {X:Cx}{pins:List (Addr×Obj)}{σ:St}{H:Hp}{s:Shared}
theorem bQ3 {l f:Addr}{fo:Obj}{vs:List Value}{kz:List Int}{Q:Value->Shared->Prop}{E:Value->Shared->Prop}(I:Inv X pins σ H s)(hli:s.heap.IsList l vs.toArray)(f1:H f=none)(f2:s.heap.get? f=some fo)(hl:kz.length=vs.length)(h6:vs.length<64)
  (turn:∀(a kS:Addr) (e1:Nat),Sk3 X pins a kS f->∀(i:Nat) (v:Value) (k:Int),vs[i]? = some v->kz[i]? = some k->∀(s':Shared) (ob:Obj),SkI X pins σ H a kS f fo (seqObj "list" #[] e1) ob s' ->
   wpAny (model X.prog X.w) X.A.in1.in1 (call (.ref f) [v]) (λr s''=>(∃t,r=.int k t)/\SkI X pins σ H a kS f fo (seqObj "list" #[] e1) ob s'') (λ_ _=>False) s')
  (h:∀a kS s' out c ok',aL4 X pins a->SkI X pins σ H a kS f fo (seqObj "list" out c) ok' s'->KskOut false kz vs out.toList->Q (.ref a) s') :
  wpAny (model X.prog X.w) X.A (call (.builtin "sorted") [.ref l] [(Str.ofString "key",.ref f)]) Q E s:=by
 refine call_function_entry_kw kind_sorted plain_sorted entry_sorted (ksk_s1 _ _) ?_;unfold Builtin.«sorted»;refine wpAny_bind (m:=checkCount "sorted" 1 1 _) (wpAny_pure (wpAny_bind (collect_list hli ?_ (by rw[sizeLine_eq];omega))))
 refine wpAny_bind (wpAny_newList ?_ (by rw[sizeLine_eq];omega))
 have kp:∀b o,s.heap.get? b=some o->((s.heap.push (seqObj "list" #[] 0)).update s.heap.objs.size (Obj.mapSeq (· ++ vs.toArray))).get? b=some o:=λb o q=>by
  have lt:=Ab3 q
  rw[Heap.get?_update_ne _ _ _ _ (Ab9 lt),Heap.get?_push_ne _ _ _ (Ab9 lt)];exact q
 have I2:Inv X pins σ H {s with heap:=(s.heap.push (seqObj "list" #[] 0)).update s.heap.objs.size (Obj.mapSeq (· ++ vs.toArray))}:=I.kept (t':=s.toks) kp
 have f3:=kp f fo f2
 generalize hg:(s.heap.push (seqObj "list" #[] 0)).update s.heap.objs.size (Obj.mapSeq (· ++ vs.toArray))=g at *;have I3:Inv X pins σ H {s with heap:=g.push (seqObj "list" vs.toArray 0)}:=I2.kept (t':=s.toks) λb u q=>Aa6 _ q
 have at3:(g.push (seqObj "list" vs.toArray 0)).get? g.objs.size=some (seqObj "list" vs.toArray 0):=Ac3 _ rfl
 have O:aL4 X pins g.objs.size:=I2.ours (Aa7 _)
 refine wpAny_bind (wpAny_holding (wpAny_call_entry_kw slot_list_sort ⟨_,at3,rfl⟩ entry_list_sort ?body (ksk_l1 _ _)))
 case body=>
  rw[ksk_t1];refine cE5 (s:={s with heap:=g.push (seqObj "list" vs.toArray 0)}) I3 (λ_ _ z=>z) (I2.hok.fresh (Aa7 _)) at3 f1 (Aa6 _ f3) O (Nat.ne_of_gt (Ab3 f3)) hl h6 (turn _) λkS s' out c ok' x ko=>⟨_,rfl,?_⟩
  exact wpAny_pure ⟨_,rfl,h _ kS s' out c ok' O x ko⟩
end
def tSK (K:PySem.W.Frag)(tl:TE)(is:List Nat)(te:TE):TE:=λσ H Q=>tl σ H λy H1=>∃(p:Addr) (l:List Int) (g:Int->Int),y=.ref p/\SqL K H1 p (l.map V.int)/\l.length<64 /\
 (∀i∈l,∀H2,Same H1 H2->te (some (.int i)::is.map λj=>(σ[j]?).getD none) H2 λz H3=>z=.int (g i)/\Same H2 H3) /\
 ∀(out:List Int) (a:Addr) (H3:Hp),out.Perm l->(out.map g).Pairwise (· <= ·)->Same H1 H3->H3 a=none->Q (.ref a) (upd H3 a (.lst (out.map V.int)))
theorem aR5:∀{l:List Int} {vs:List Value},Vals (l.map V.int) vs->IntsAre vs l
 | [],_,.nil=>.nil
 | _::_,_,.cons ⟨t,e⟩ r=>by subst e;exact .cons _ _ (aR5 r)
theorem cM2 {l:List Int}{vs outv:List Value}{g:Int->Int}(hi:IntsAre vs l)(k:KskOut false (l.map g) vs outv):∃out:List Int,IntsAre outv out/\out.Perm l/\(out.map g).Pairwise (· <= ·):=by
 obtain ⟨ps,hp,ho,hs⟩:=k;have len:=hi.length;have rel:∀p∈(l.map g).zip vs,p.1=g (numOf p.2)/\p.2∈vs:=by
  rw[<- hi.nums,Ae2,List.zip_map_left];intro p hp';obtain ⟨⟨u,v⟩,hq,rfl⟩:=Aa8.mp hp';obtain ⟨rfl,q2⟩:u=v/\u∈vs:=mem_zip_self hq;exact⟨rfl,q2⟩
 have rel':∀p∈ps,p.1=g (numOf p.2)/\p.2∈vs:=λp h=>rel p (hp.mem_iff.mp h)
 refine⟨outv.map numOf,?_,?_,?_⟩
 ·exact intsAre_map _ λv hv=>by
   rw[ho]at hv;obtain ⟨p,h1,rfl⟩:=Aa8.mp hv;exact hi.all _ (rel' p h1).2
 ·have q:=(hp.map Prod.snd).map numOf
  rw[List.map_snd_zip (by rw[Aa3];omega),hi.nums]at q
  rw[ho];exact q
 ·rw[ho,Ae0,Ae0,Ae0];refine hs.imp_of_mem λ{p q} h1 h2 hr=>?_
  have hr':p.1<=q.1:=hr
  rw[(rel' p h1).1,(rel' q h2).1]at hr';exact hr'
theorem bZ4 {X:Cx}{k:Nat}(K:PySem.W.Frag){c P:Addr}{params:Arguments}{body e:Expr}{scope:Scope}{cl:List (Str×Addr)}{x:Str}{is:List Nat}{N':List Str}{tl te:TE}{p pos lpos kpos:Pos}(hK:X.K=K)(S:LScope X scope cl x is N')(hr:Room (k+3) X.A)
  (hcode:X.env.code=.ref c) (ht:PySem.W.tabIn X.K "triple_of" = some (c,P)) (hq:X.env.qual ++ "<lambda>" = ("triple_of.<locals>.<lambda>" : Str)) (hdef:defaultsOf params X.env=([],[]))
  (hbind:∀(nm q:Str) (pm cdv ct u:Value),bindArgs (PySem.W.kla_fn nm q params body scope cl pm cdv ct) ⟨[u],[]⟩=pure [(x,u)])
  (hg:Gl X "sorted") (hm:X.mg "sorted" = none) (he:PE X e tl) (hb:∀L f c' s H,PE (cxL X N' scope cl L f c' s H) body te)
  (hne:cA3 e=true:=by rfl) :
  PE X (.Call (.Name "sorted" p) [e] [⟨some "key",.Lambda params body scope lpos,kpos⟩] pos) (tSK K tl is te):=by
 subst hK;refine⟨λpins s σ H Q I h=>?_⟩
 refine wpAny_Call_Name_kw (Y1 I hg hm rfl ?_)
 let R:V->Hp->Prop:=λy H1=>∃(p:Addr) (l:List Int) (g:Int->Int),y=.ref p/\SqL X.K H1 p (l.map V.int)/\l.length<64 /\
  (∀i∈l,∀H2,Same H1 H2->te (some (.int i)::is.map λj=>(σ[j]?).getD none) H2 λz H3=>z=.int (g i)/\Same H2 H3) /\
  ∀(out:List Int) (a:Addr) (H3:Hp),out.Perm l->(out.map g).Pairwise (· <= ·)->Same H1 H3->H3 a=none->Q (.ref a) (upd H3 a (.lst (out.map V.int)))
 let R':List V->Hp->Prop:=λys H1=>match ys with
  | [y]=>R y H1
  | _=>False
 have h2:E1 tl S6 σ H R':=h
 refine callWith_kw (thn ((A0 he A3 hne:PA X [e] (E1 tl S6)).run pos pins s σ H R' I h2) λus s1 ⟨ys,H1,I1,r1,q1⟩=>?_) (by rw[m9 hne];rfl) (by rw[m9 hne];rfl) rfl rfl
 obtain ⟨y,rfl⟩:∃y,ys=[y]:=by
  rcases ys with _ | ⟨y,_ | ⟨z,zs⟩⟩
  ·exact False.elim q1
  ·exact⟨y,rfl⟩
  ·exact False.elim q1
 obtain ⟨pl,l,g,ey,hsq,h6,hkey,hend⟩:=(show R y H1 from q1)
 subst ey;cases r1 with
 | cons ry rt=>
  cases rt
  obtain rfl:=(show _=Value.ref pl from ry)
  show wpAny _ _ (evalAll ((do let v <- eval (.Lambda params body scope lpos) X.env;standAt pos;pure v)::[])) _ _ s1
  refine wpAny_evalAll_cons (wpAny_bind (bY0 I1 hcode ht hq S.clos hdef λf c' ctv H2 s2 I2 sm2 hfo hf2 Of hc2=>wpAny_bind (wpAny_standAt (wpAny_pure (wpAny_evalAll_nil ?_)))))
  show wpAny _ _ (call (.builtin "sorted") [.ref pl] [(Str.ofString "key",.ref f)]) _ _ s2
  obtain ⟨its,rv,pll,_⟩:=I2.list (a:=pl) (xs:=l.map V.int) (hsq.imp (λz=>z.imp (sm2 _ _) λ⟨o,z⟩=>⟨o,sm2 _ _ z⟩) id)
  have hi:IntsAre its l:=aR5 rv
  have hlen:=hi.length
  refine bQ3 (kz:=l.map g) I2 pll.isList hf2 hfo (by rw[Aa3,hlen]) (by omega) (λa kS e1 w3 i v k hv hk s' ob x=>?_) λa kS s' out c2 ok' Oa x ko=>?_
  ·obtain ⟨H3,I3,sm3,⟨a1,a2⟩,⟨k1,k2⟩,f1,f2⟩:=x;rw[Aa9]at hk;cases en:l[i]? with
   | none=>rw[en]at hk;cases hk
   | some n=>
    rw[en]at hk;obtain rfl:g n=k:=Ab4 hk;obtain ⟨t,hv2⟩:=hi.get i n en;rw[hv2]at hv;cases hv;refine wpAny_mono (bZ3 (v:=.int n) S I3 hr f2 (sm3 _ _ hc2) hbind hb ⟨t,rfl⟩ (hkey n (List.mem_of_getElem? en) H3 λb o z=>sm3 _ _ (sm2 _ _ z))) (λr s'' ⟨y,H4,I4,ry,⟨ey,sm4⟩,kp⟩=>?_) λ_ _ z=>z
    subst ey;have ka:=kp a _ a2 a1 w3.oa.fr;have kk:=kp kS _ k2 k1 w3.ok.fr;have kf:=kp f _ f2 f1 Of.fr;exact⟨ry,H4,I4,λb o z=>sm4 _ _ (sm3 _ _ z),⟨ka.2,ka.1⟩,⟨kk.2,kk.1⟩,kf.2,kf.1⟩
  ·obtain ⟨H3,I3,sm3,⟨a1,a2⟩,_⟩:=x;obtain ⟨ol,hio,hpo,hso⟩:=cM2 hi ko;have zo:=hpo.length_eq;refine⟨.ref a,_,I3.track (o:=.lst (ol.map V.int)) Oa a1 ⟨by rw[Aa3,sizeLine_eq];omega,out.toList,c2,T4 hio,by rw[a2,Array.toArray_toList]⟩,rfl,hend ol a H3 hpo hso (λb o z=>sm3 _ _ (sm2 _ _ z)) a1⟩
end L2
namespace LV
open PySem L2 PyProof.Rows
section
variable {K:PySem.W.Frag}{ρ:List Sl}
theorem bC5 {H:Hp}:∀{l:List Int},Reps K H (l.map V.int) (l.map .int)
 | []=>.nil
 | _::_=>.cons (.int _) bC5
theorem aL7 {H:Hp}:∀{l:List Int} {xs:List V},Reps K H xs (l.map .int)->xs=l.map V.int
 | [],_,r=>by cases r;rfl
 | _::_,_,r=>by
  cases r with
  | cons a b=>cases a;rw[aL7 b];rfl
theorem bV5 {tl te:TE}{is:List Nat}{l out:List Int}(g:Int->Int)(hl:E K false tl ρ (.list (l.map .int)))(h6:l.length<64)(hk:∀i∈l,E K false te ((slC ρ 1 is).set 0 (.val (.int i))) (.int (g i)))
  (ho:∀o:List Int,o.Perm l->(o.map g).Pairwise (· <= ·)->o=out):EF K (tSK K tl is te) ρ (out.map .int):=λS B σ H o I Q q=>
 hl S B σ H o I _ λv H1 s1 r=>by
  cases r with
  | @lst p xs _ sq rs=>
   obtain rfl:=aL7 rs;refine⟨p,l,g,rfl,sq,h6,λi hi H2 s2=>?_,λo' a H3 hp hs s3 hn=>?_⟩
   ·have IC:=((I.grow (L2.Same.tr s1 s2)).comp 1 is).set (m:=true) (v:=.int i) (d:=.int i) 0 (.int i)
    refine hk i hi _ _ _ _ _ IC _ λz H3 s3 rz=>?_
    cases rz
    exact⟨rfl,s3⟩
   ·obtain rfl:=ho o' hp hs;refine q a _ _ (L2.Same.tr (L2.Same.tr s1 s3) (D5 hn)) (T8 (L2.Same.tr s1 s3) hn) C0 bC5
end
end LV
namespace K18
open PySem L2 LV PyProof.Rows
theorem sc_second_out:D7 ["drawing", "arrows", "came", "place", "met"] ["drawing", "arrows", "came", "place"] (A9 O1):=⟨rfl,rfl,rfl,by decide +kernel,rfl,by decide +kernel,by decide +kernel⟩
theorem sc_colour_of:D7 ["drawing", "arrows", "p", "q", "here", "there", "beyond"] ["drawing", "arrows", "p", "q"] (A9 Q7):=⟨rfl,rfl,rfl,by decide +kernel,rfl,by decide +kernel,by decide +kernel⟩
theorem sc_triple_of:D7 ["drawing", "arrows", "place", "ends"] ["drawing", "arrows", "place"] (A9 Q5):=⟨rfl,rfl,rfl,by decide +kernel,rfl,by decide +kernel,by decide +kernel⟩
theorem bG7:D7 ["drawing", "arrows"] ["drawing", "arrows"] (A9 V2):=⟨rfl,rfl,rfl,by decide +kernel,rfl,by decide +kernel,by decide +kernel⟩
theorem aX6 (tr:List (List Nat)):tr.map tN=(trI tr).map tI:=by
 unfold trI;rw[Ae2];exact List.map_congr_left λr _=>bK6 r
theorem Z8 (ps:List (Int×Int)):Fit (.tuple (ps.map pD)):=(aK6 (n:=1) λd hd=>by obtain ⟨x,_,rfl⟩:=Aa8.mp hd;exact aA4 x).fit
theorem bC2 {α:Type}{g h:Nat->List α}:∀n,(∀i,i<n->g i=h i)->ga g n=ga h n
 | 0,_=>rfl
 | n+1,e=>by rw[M5,M5,bC2 n λi hi=>e i (by omega),e n (by omega)]
theorem aG5 (tr:List (List Nat)):aL (trI tr)=arr tr:=by
 unfold aL arr;rw[show(trI tr).length=tr.length by simp[trI]]
 refine bC2 _ λi hi=>?_
 unfold ga2 ga1 trI;rw[Ac0,Ac0,Aa9,Aa2 hi];simp only[Option.map_some,Option.getD_some,Ae2];refine List.map_congr_left λx _=>?_
 show((i:Int)+3,(x:Int))=(3+(i:Int),(x:Int))
 rw[Int.add_comm]
theorem aJ6 (os:List (List Int)){p:Nat}(h3:3<=p):∀n,(ga (ga2 os) n).filter (λx=>decide (x.1=(p:Int)))=if p-3<n then ga2 os (p-3) else []
 | 0=>by simp[ga]
 | n+1=>by
  rw[M5,List.filter_append,aJ6 os h3 n];have all:∀x∈ga2 os n,x.1=(n:Int)+3:=λx hx=>by
   unfold ga2 at hx;obtain ⟨q,_,rfl⟩:=Aa8.mp hx;rfl
  by_cases h:n=p-3
  ·subst h;rw[if_neg (by omega),if_pos (by omega),List.filter_eq_self.mpr λx hx=>by rw[decide_eq_true_eq,all x hx];omega]
   rfl
  ·rw[List.filter_eq_nil_iff.mpr λx hx=>by rw[decide_eq_true_eq,all x hx];omega,List.append_nil]
   by_cases h2:p-3<n
   ·rw[if_pos h2,if_pos (by omega)]
   ·rw[if_neg h2,if_neg (by omega)]
def en (tr:List (List Nat))(p:Nat):List Int:=((sp (arr tr)).filter λx=>decide (x.1=(p:Int))).map (·.2)
section
variable {m:Nat}{dr tr:List (List Nat)}
structure Dg (m:Nat)(dr tr:List (List Nat)):Prop where
 m7:m<=7
 gd:TT.Gd m dr tr
theorem cS2 (B:TT.Gd m dr tr){p:Nat}(hp:p<m+3):(TT.trn dr p).length<=m+3:=TT.bF5 (B.good.nd p) (λx hx=>B.good.lt p x hx)
theorem bL7 (B:TT.Gd m dr tr){p:Nat}(h3:3<=p)(hp:p<m+3):(en tr p).Perm [(TT.og tr 0 p:Int),(TT.og tr 1 p:Int),(TT.og tr 2 p:Int)]:=by
 unfold en;refine(((d0 (arr tr)).filter _).map _).trans ?_;rw[<- aG5];unfold aL;rw[aJ6 _ h3,N3 B,if_pos (by omega)]
 unfold ga2;rw[Ae2,V3 B (by omega),show p-3+3=p by omega]
 exact List.Perm.refl _
theorem bM4 (B:TT.Gd m dr tr){q x:Nat}(h3:3<=q)(hq:q<m+3):((q:Int),(x:Int))∈sp (arr tr)↔TT.isO tr q x=true:=by
 rw[(d0 (arr tr)).mem_iff,<- aG5,aL_mem,TT.isO_iff];constructor
 ·rintro ⟨v,hv,y,hy,e⟩;have e1:(q:Int)=(v:Int)+3:=congrArg Prod.fst e;have e2:(x:Int)=y:=congrArg Prod.snd e;rw[N3 B]at hv;obtain rfl:v=q-3:=by omega
  rw[V3 B hv,show q-3+3=q by omega]at hy
  simp only[Aa1,Ac2,or_false]at hy;rcases hy with h | h | h
  ·exact⟨0,by omega,by omega⟩
  ·exact⟨1,by omega,by omega⟩
  ·exact⟨2,by omega,by omega⟩
 ·rintro ⟨c,hc,rfl⟩;exact aL_mem.mp (aE0 B hc h3 hq)
theorem cP1 (B:TT.Gd m dr tr){p:Nat}(h3:3<=p)(hp:p<m+3):TT.og tr 0 p≠TT.og tr 1 p/\TT.og tr 0 p≠TT.og tr 2 p/\TT.og tr 1 p≠TT.og tr 2 p:=by
 obtain ⟨a,b,c,R⟩:=B.ring h3 hp;have nd:=R.nd;simp only[Aa5,Aa4,Aa0,Aa1,not_or]at nd;exact⟨nd.1.2.1,nd.1.2.2.2.1,nd.2.2.1.1.2.1⟩
def kc (tr:List (List Nat))(p:Nat)(q:Int):Int:=if q=(TT.og tr 0 p:Int) then 0 else if q=(TT.og tr 1 p:Int) then 1 else 2
theorem bL6 (B:TT.Gd m dr tr){p c:Nat}(h3:3<=p)(hp:p<m+3)(hc:c<3):kc tr p (TT.og tr c p:Int)=(c:Int):=by
 obtain ⟨h1,h2,h4⟩:=cP1 B h3 hp;unfold kc;rcases (show c=0\/c=1\/c=2 by omega) with rfl | rfl | rfl
 ·rw[if_pos rfl];rfl
 ·rw[if_neg (by omega),if_pos rfl];rfl
 ·rw[if_neg (by omega),if_neg (by omega)];rfl
theorem cD3 (B:TT.Gd m dr tr){p:Nat}(h3:3<=p)(hp:p<m+3)(o:List Int)(ho:o.Perm (en tr p))(hs:(o.map (kc tr p)).Pairwise (· <= ·)):o=[(TT.og tr 0 p:Int),(TT.og tr 1 p:Int),(TT.og tr 2 p:Int)]:=by
 have k0:=bL6 B h3 hp (show 0<3 by omega)
 have k1:=bL6 B h3 hp (show 1<3 by omega)
 have k2:=bL6 B h3 hp (show 2<3 by omega)
 rcases ksk_perm3 (ho.trans (bL7 B h3 hp)) with rfl | rfl | rfl | rfl | rfl | rfl
 ·rfl
 all_goals
  exfalso
  simp only[Ac7,List.map_nil,k0,k1,k2]at hs
  revert hs
  decide
theorem cN5 (B:TT.Gd m dr tr){p:Nat}(hp:p<m+3):(dr.map tN)[p]? = some (tN (TT.trn dr p)):=by
 rw[Aa9,bH9 (by rw[B.dl];exact hp)];rfl
end
def fM (tr:List (List Nat))(q:Nat):PyData->Option PyData
 | .int x=>if((q:Int),x)∈sp (arr tr) then some (.int x) else none
 | _=>none
theorem cI9 {m:Nat}{dr tr:List (List Nat)}(B:TT.Gd m dr tr){q:Nat}(h3:3<=q)(hq:q<m+3)(l:List Nat):(nI l).filterMap (fM tr q)=nI (l.filter (TT.isO tr q)):=by
 induction l with
 | nil=>rfl
 | cons x l ih=>
  show(PyData.int (x:Int)::nI l).filterMap (fM tr q)=_
  rw[List.filter_cons];have e:fM tr q (.int (x:Int))=if((q:Int),(x:Int))∈sp (arr tr) then some (.int (x:Int)) else none:=rfl;by_cases h:TT.isO tr q x=true
  ·rw[if_pos h,List.filterMap_cons,e,if_pos ((bM4 B h3 hq).mpr h)];show _::_=_::_;rw[ih];rfl
  ·rw[if_neg h,List.filterMap_cons,e,if_neg λz=>h ((bM4 B h3 hq).mp z)]
   exact ih
def fE (p:Nat):PyData->Option PyData
 | .tuple [.int x,.int y]=>if x=(p:Int) then some (.int y) else none
 | _=>none
theorem cK2 (p:Nat)(ps:List (Int×Int)):(ps.map pD).filterMap (fE p)=((ps.filter λx=>decide (x.1=(p:Int))).map (·.2)).map PyData.int:=by
 induction ps with
 | nil=>rfl
 | cons x l ih=>
  rw[Ac7,List.filterMap_cons,List.filter_cons];have e:fE p (pD x)=if x.1=(p:Int) then some (.int x.2) else none:=rfl;rw[e];by_cases h:x.1=(p:Int)
  ·rw[if_pos h,if_pos (decide_eq_true h)];show _::_=_;rw[ih];rfl
  ·rw[if_neg h,if_neg (by simpa using h)]
   exact ih
def fO (tr:List (List Nat)):PyData->Option PyData
 | .int p=>some (tI [(TT.og tr 0 p.toNat:Int),(TT.og tr 1 p.toNat:Int),(TT.og tr 2 p.toNat:Int)])
 | _=>none
def arD (tr:List (List Nat)):PyData:=.tuple ((sp (arr tr)).map pD)
def cP7 (ds:List PyData)(d:PyData):Prop:=∃(m:Nat) (dr tr:List (List Nat)) (c p q:Nat),Dg m dr tr/\c<3/\3<=p/\p<m+3/\TT.og tr c p=q/\3<=q/\q<m+3/\ds=[.tuple (dr.map tN),arD tr,.int (p:Int),.int (q:Int)]/\d=.int (TT.og tr c q:Int)
def cR6 (ds:List PyData)(d:PyData):Prop:=∃(m:Nat) (dr tr:List (List Nat)) (c p:Nat),Dg m dr tr/\c<3/\3<=p/\p<m+3/\ds=[.tuple (dr.map tN),arD tr,.int (p:Int),.int (TT.og tr c p:Int)]/\d=.int (c:Int)
def bU1 (ds:List PyData)(d:PyData):Prop:=∃(m:Nat) (dr tr:List (List Nat)) (p:Nat),Dg m dr tr/\3<=p/\p<m+3/\ds=[.tuple (dr.map tN),arD tr,.int (p:Int)]/\d=tI [(TT.og tr 0 p:Int),(TT.og tr 1 p:Int),(TT.og tr 2 p:Int)]
def cI2 (ds:List PyData)(d:PyData):Prop:=∃(m:Nat) (dr tr:List (List Nat)),Dg m dr tr/\ds=[.tuple (dr.map tN),arD tr]/\d=.tuple (tr.map tN)
theorem bF8 {m:Nat}{dr tr:List (List Nat)}(h:Dg m dr tr):(sp (arr tr)).length=3*m:=by
 rw[(d0 _).length_eq,<- aG5]
 have:=aA1 (aG2 h.gd) (trI tr).length (Aa7 _)
 unfold aL;rw[this,N3 h.gd]
section
variable {P:Program}{w:World}{K:PySem.W.Frag}{mg:Str->Option Value}{base:Heap}{a:Ad}
theorem bP0 (T:Tx K mg a):G3 P w K mg base CX0 2 a.j6 a.Z1 ["drawing", "arrows", "came", "place"] (spV K cP7):=by
 have G_begun_with:G3 P w K mg base CX0 1 _ _ _ _:=aO2 T
 refine T.aB3.ok sc_second_out (X3 λds d ⟨_,_,_,_,_,_,_,_,_,_,_,_,_,e,_⟩=>by rw[e];rfl) (λcdv A outer s H vs Q E hr h=>?_)
 obtain ⟨ds,S,d,hS,r,⟨m,dr,tr,c,p,q',dw,hc,p3,hp,eo,q3,hq,rfl,rfl⟩,q⟩:=h;refine⟨_,(A5 (aA7 (i:=4) sc_second_out.nd rfl rfl (T:=["q"]) (N':=["q", "place", "arrows"]) (is:=[3,1]) rfl (.of rfl rfl rfl (by exact⟨rfl,rfl,trivial⟩) rfl rfl rfl (by exact⟨⟨_,rfl,by first | exact .inl rfl | exact .inr rfl,by first | exact .inl rfl | exact .inr rfl⟩,⟨_,rfl,by first | exact .inl rfl | exact .inr rfl,by first | exact .inl rfl | exact .inr rfl⟩,trivial⟩)) (X7 (C4 G_begun_with (hr.mono (by decide)) rfl T.aT7 T.aC0.kp T.aW4 .nil J5 (A0 (B7 (ixK K) (pv 0) (pv 3) (λ_ _=>rfl)) (A0 (pv 2) A3)))) (S0 (by decide)) λ_ _ _ _=>⟨(B4 (i:=0) (by decide +kernel:(["q", "place", "arrows"]:List Str).Nodup) rfl (Or.inl rfl)),(aJ4 (C1 (aN7 K hr) (G0 (A0 (pv 1) (A0 (pv 0) A3))) (pv 2) rfl)),(pv 0)⟩)
   (A8 (C9 (B7 (ixK K) (pv 4) A4 (λ_ _=>rfl))))),M1 hS r ?_ q⟩
 have B:=dw.gd
 obtain ⟨hin,x1,x3,hmet⟩:=B.second hc p3 hp eo q3 hq;have m7:=dw.m7;have hrl:(TT.trn dr q').length<=10:=by have:=cS2 B hq;omega
 have hfl:(TT.rfr (TT.trn dr q') p).length<=10:=by unfold TT.rfr;rw[Ab7,List.length_drop,Ad1];omega
 have cm:=T7 (K:=K) (m:=true) (ρ:=sl0 ["drawing", "arrows", "came", "place", "met"].length [.tuple (dr.map tN),arD tr,.int (p:Int),.int (q':Int)]) (n:=1) (is:=[3,1]) (g:=N2 0) (tt:=w4 (tOp (aW0 K false) (aH5 (E1 (D9 1) (E1 (D9 0) S6))) (D9 2))) (te:=D9 0) (fM tr q') (v9 (ds:=nI (TT.rfr (TT.trn dr q') p)) (E3 (pre:=cH8) (X:=E0) (d:=tN (TT.rfr (TT.trn dr q') p)) (A1 (G5 (ds:=dr.map tN) (A2 (i:=0) rfl) (A2 (i:=3) rfl) rfl (K0 q' rfl (cN5 B hq))) (A1 (A2 (i:=2) rfl) A7)) ⟨TT.trn dr q',p,hin,by omega,rfl,rfl⟩)) (by rw[D3];unfold PySem.sizeLine;omega) (λd hd=>by
  obtain ⟨x,hx,rfl⟩:=Aa8.mp hd;refine⟨_,B9,?_⟩;have ht:=C7 (bA8 (K:=K) (m:=false) (ρ:=[.val (.int (x:Int)),.val (.int (q':Int)),.val (arD tr)]) (d:=pD ((q':Int),(x:Int))) (ds:=(sp (arr tr)).map pD) (N5 (A1 (A2 (i:=1) rfl) (A1 (A2 (i:=0) rfl) A7))) (A2 (i:=2) rfl) rfl (aA4 ((q':Int),(x:Int))).fit (Z8 _));have ht2:=ht;rw[aL5 ((q':Int),(x:Int))]at ht2;have e:fM tr q' (.int (x:Int))=if((q':Int),(x:Int))∈sp (arr tr) then some (.int (x:Int)) else none:=rfl;rw[e];by_cases h:((q':Int),(x:Int))∈sp (arr tr)
  ·rw[if_pos h];rw[decide_eq_true h]at ht2;exact⟨ht2,A2 rfl⟩
  ·rw[if_neg h];rw[decide_eq_false h]at ht2;exact ht2)
 rw[cI9 B q3 hq,show(TT.rfr (TT.trn dr q') p).filter (TT.isO tr q')=[x1,TT.og tr c q',x3] from hmet]at cm
 refine B1 (K2 cm ?_ (show 4<5 by decide))
 exact L9 (LV.E.imm (G5 (ds:=nI [x1,TT.og tr c q',x3]) (d':=.int (TT.og tr c q':Int)) (G9 rfl) A6 rfl rfl)) rfl
theorem bO2 (T:Tx K mg a):G3 P w K mg base CX0 3 a.n5 a.p7 ["drawing", "arrows", "p", "q"] (spV K cR6):=by
 have G_second_out:G3 P w K mg base CX0 2 _ _ _ _:=bP0 T
 refine T.aH1.ok sc_colour_of (X3 λds d ⟨_,_,_,_,_,_,_,_,_,e,_⟩=>by rw[e];rfl) (λcdv A outer s H vs Q E hr h=>?_)
 obtain ⟨ds,S,d,hS,r,⟨m,dr,tr,c,p,dw,hc,p3,hp,rfl,rfl⟩,q⟩:=h;obtain ⟨t_CORNERS,J7⟩:=T.J7;refine⟨_,(A5 (B6 (i:=4) sc_colour_of.nd rfl (Or.inl rfl) (pv 2))
   (A5 (B6 (i:=5) sc_colour_of.nd rfl (Or.inl rfl) (pv 3))
   (A5 (aM2 PassesOwn.never (C1 cQ5 (pv 5) (aT8 (v:=.int 3) rfl J7 ⟨t_CORNERS,rfl⟩) (E2 _)) (A5 (B6 (i:=6) sc_colour_of.nd rfl (Or.inl rfl) (C4 G_second_out (hr.mono (by decide)) rfl T.aV0 T.aB3.kp T.aW7 .nil J5 (A0 (pv 0) (A0 (pv 1) (A0 (pv 4) (A0 (pv 5) A3))))))
   (A5 (B6 (i:=4) sc_colour_of.nd rfl (Or.inl rfl) (pv 5))
   (A8 (B6 (i:=5) sc_colour_of.nd rfl (Or.inl rfl) (pv 6))))))
   (A8 (C9 (pv 5)))))),M1 hS r ?_ q⟩
 have B:=dw.gd
 obtain ⟨k0,hk0⟩:=B.stepsO hc p3 hp;refine B1 (L8 (A2 rfl) (B1 (L8 (A2 rfl) ?_)));refine B1 (aV6 (λk ρ=>∃(h t:Nat) (x6:Sl),(x6.nb=true/\3<=h/\h<m+3/\TT.og tr c h=t/\TT.Sn tr c (m+3) t k)/\ρ=[.val (.tuple (dr.map tN)),.val (arD tr),.val (.int (p:Int)),.val (.int (TT.og tr c p:Int)),.val (.int (h:Int)),.val (.int (t:Int)),x6]) ⟨k0,p,TT.og tr c p,.no,⟨rfl,p3,hp,rfl,hk0⟩,rfl⟩ ?_)
 rintro k _ ⟨h,t,x6,⟨b6,h3,hh,eo,st⟩,rfl⟩;refine⟨_,C7 (aB4 (A2 (i:=5) rfl) (A6 (i:=3))),?_⟩;by_cases ht:(t:Int)≥3
 ·rw[decide_eq_true ht];cases st with
  | zero e=>omega
  | @succ _ k' q3 hq st=>
   refine B1 (L8 (E3 (A1 (A2 (i:=0) rfl) (A1 (A2 (i:=1) rfl) (A1 (A2 (i:=4) rfl) (A1 (A2 (i:=5) rfl) A7)))) ⟨m,dr,tr,c,h,t,dw,hc,h3,hh,eo,q3,hq,rfl,rfl⟩) ?_);refine B1 (L8 (A2 (i:=5) rfl) ?_);refine L8 (A2 (i:=6) rfl) ?_;exact⟨k',by omega,t,TT.og tr c t,_,⟨rfl,q3,hq,rfl,st⟩,rfl⟩
 ·rw[decide_eq_false ht];cases st with
  | zero e=>
   subst e;exact L9 (A2 (i:=5) rfl) rfl
  | succ q3 hq st=>omega
theorem bO6 {c Tt:Addr}(T:Tx K mg a)(KX:K.In base)(GX:base.Ns mainGlobals mg)(ht:PySem.W.tabIn K "triple_of" = some (c,Tt)):G3 P w K mg base CX0 7 a.n6 a.p9 ["drawing", "arrows", "place"] (spV K bU1):=by
 have G_colour_of:G3 P w K mg base CX0 3 _ _ _ _:=bO2 T
 have hcode:=bU4 KX GX T.aG7 T.p6 ht
 refine T.p6.okC sc_triple_of (X3 λds d ⟨_,_,_,_,_,_,_,e,_⟩=>by rw[e];rfl) (λcdv A outer s H vs Q E hcd hr h=>?_)
 obtain ⟨ds,S,d,hS,r,⟨m,dr,tr,p,dw,p3,hp,rfl,rfl⟩,q⟩:=h;obtain rfl:cdv=.ref c:=hcd.symm.trans hcode;refine⟨_,(A5 (aA7 (i:=3) sc_triple_of.nd rfl rfl (T:=["p", "q"]) (N':=["p", "q", "place"]) (is:=[2]) rfl (.of rfl rfl rfl (by exact⟨rfl,trivial⟩) rfl rfl rfl (by exact⟨⟨_,rfl,by first | exact .inl rfl | exact .inr rfl,by first | exact .inl rfl | exact .inr rfl⟩,trivial⟩)) (X7 (pv 1)) (cW7 (by decide) (by decide)) λ_ _ _ _=>⟨(p8 (n:=2) rfl (E8 (B4 (i:=0) (by decide +kernel:(["p", "q", "place"]:List Str).Nodup) rfl (Or.inl rfl)) (E8 (B4 (i:=1) (by decide +kernel:(["p", "q", "place"]:List Str).Nodup) rfl (Or.inl rfl)) W9))),(aJ4 (C1 aS2 (pv 0) (pv 2) (E2 _))),(pv 1)⟩)
   (A8 (C9 (M0 (bW1 K) (by rfl) T.M6 boot_tuple (A0 (bZ4 (k:=3) K (x := "q") (is:=[0,1,2]) (N':=["q", "drawing", "arrows", "place"]) rfl (.of rfl rfl rfl rfl rfl rfl (by exact⟨rfl,rfl,rfl,trivial⟩) rfl rfl (by exact⟨⟨_,rfl,rfl,by first | exact .inl rfl | exact .inr rfl⟩,⟨_,rfl,rfl,by first | exact .inl rfl | exact .inr rfl⟩,⟨_,rfl,rfl,by first | exact .inl rfl | exact .inr rfl⟩,trivial⟩)) hr rfl ht rfl rfl (λ_ _ _ _ _ _=>rfl) rfl T.R8 (pv 3) λ_ _ _ _ _=>(C4 G_colour_of (hr.in1.in1.deeper _) rfl T.bE1 T.aH1.kp T.bD6 .nil J5 (A0 (pv 1) (A0 (pv 2) (A0 (pv 3) (A0 (pv 0) A3)))))) A3))))),M1 hS r ?_ q⟩
 have B:=dw.gd
 have hsl:=bF8 dw
 have hm7:=dw.m7
 have hperm:=bL7 B p3 hp
 have c1:=T7 (K:=K) (m:=true) (ρ:=sl0 ["drawing", "arrows", "place", "ends"].length [.tuple (dr.map tN),arD tr,.int (p:Int)]) (n:=2) (is:=[2]) (g:=bU6 K 2 (aE2 (N2 0) (aE2 (N2 1) bE9))) (tt:=w4 (tOp rEq (D9 0) (D9 2))) (te:=D9 1) (fE p) (v9 (ds:=(sp (arr tr)).map pD) (A2 (i:=1) rfl)) (by rw[Aa3];unfold PySem.sizeLine;omega) (λd hd=>by
  obtain ⟨x,hx,rfl⟩:=Aa8.mp hd;refine⟨_,aG9 (K3 B9 (K3 B9 r9)),?_⟩;have ht:=C7 (aR9 (K:=K) (m:=false) (ρ:=[.val (.int x.1),.val (.int x.2),.val (.int (p:Int))]) (A2 (i:=0) rfl) (A2 (i:=2) rfl));have e:fE p (pD x)=if x.1=(p:Int) then some (.int x.2) else none:=rfl;rw[e];by_cases h:x.1=(p:Int)
  ·rw[if_pos h];rw[decide_eq_true h]at ht;exact⟨ht,A2 rfl⟩
  ·rw[if_neg h];rw[decide_eq_false h]at ht;exact ht)
 rw[cK2,show((sp (arr tr)).filter λx=>decide (x.1=(p:Int))).map (·.2)=en tr p from rfl]at c1
 refine B1 (K2 c1 ?_ (show 3<4 by decide))
 refine L9 (U9 (A1 (EF.e' (bV5 (l:=en tr p) (kc tr p) (G9 (i:=3) rfl) (by rw[hperm.length_eq];exact(by decide:3<64)) (λi hi=>?_) (cD3 B p3 hp))) A7) (Y8 (λ_=>rfl) _)) rfl
 have hi':=hperm.mem_iff.mp hi
 simp only[Aa1,Ac2,or_false]at hi';obtain ⟨c',hc',rfl⟩:∃c',c'<3/\i=(TT.og tr c' p:Int):=by
  rcases hi' with h | h | h
  ·exact⟨0,by omega,h⟩
  ·exact⟨1,by omega,h⟩
  ·exact⟨2,by omega,h⟩
 rw[bL6 B p3 hp hc'];exact E3 (A1 (A2 (i:=1) rfl) (A1 (A2 (i:=2) rfl) (A1 (A2 (i:=3) rfl) (A1 (A2 (i:=0) rfl) A7)))) ⟨m,dr,tr,c',p,dw,hc',p3,hp,rfl,rfl⟩
theorem cA9 {c Tt:Addr}(T:Tx K mg a)(KX:K.In base)(GX:base.Ns mainGlobals mg)(ht:PySem.W.tabIn K "triple_of" = some (c,Tt)):G3 P w K mg base CX0 8 a.aE6 a.aF6 ["drawing", "arrows"] (spV K cI2):=by
 have G_triple_of:G3 P w K mg base CX0 7 _ _ _ _:=bO6 T KX GX ht
 refine T.t8.ok bG7 (X3 λds d ⟨_,_,_,_,e,_⟩=>by rw[e];rfl) (λcdv A outer s H vs Q E hr h=>?_)
 obtain ⟨ds,S,d,hS,r,⟨m,dr,tr,dw,rfl,rfl⟩,q⟩:=h;obtain ⟨t_CORNERS,J7⟩:=T.J7;refine⟨_,(A8 (C9 (M0 (bW1 K) (by rfl) T.M6 boot_tuple (A0 (j9 (T:=["place"]) (N':=["place", "drawing", "arrows"]) (is:=[0,1]) rfl (.of rfl rfl rfl (by exact⟨rfl,rfl,trivial⟩) rfl rfl rfl (by exact⟨⟨_,rfl,by first | exact .inl rfl | exact .inr rfl,by first | exact .inl rfl | exact .inr rfl⟩,⟨_,rfl,by first | exact .inl rfl | exact .inr rfl,by first | exact .inl rfl | exact .inr rfl⟩,trivial⟩)) (bO9 rfl T.G6 (A0 (aT8 (v:=.int 3) rfl J7 ⟨t_CORNERS,rfl⟩) (A0 (C3 (aN8 K) (by rfl) T.P1 PySem.boot_len (A0 (pv 0) A3)) A3))) (S0 (by decide)) λ_ _ _ _=>⟨(B4 (i:=0) (by decide +kernel:(["place", "drawing", "arrows"]:List Str).Nodup) rfl (Or.inl rfl)),V5,(C4 G_triple_of (hr.mono (by decide)) rfl T.aG7 T.p6.kp T.bA2 .nil J5 (A0 (pv 1) (A0 (pv 2) (A0 (pv 0) A3))))⟩) A3)))),M1 hS r ?_ q⟩
 have B:=dw.gd
 have m7:=dw.m7
 have hlen:((dr.map tN).length:Int)=(m:Int)+3:=by rw[Aa3,B.dl];rfl
 have hz:(((dr.map tN).length:Int)-3).toNat=m:=by rw[hlen];omega
 have cm:=T7 (K:=K) (m:=true) (ρ:=sl0 ["drawing", "arrows"].length [.tuple (dr.map tN),arD tr]) (n:=1) (is:=[0,1]) (g:=N2 0) (tt:=aV9) (te:=aP3 (spV K bU1) [] E0 (E1 (D9 1) (E1 (D9 2) (E1 (D9 0) S6)))) (fO tr) (cK1 (A1 (A6 (i:=3)) (A1 (S8 (ds:=dr.map tN) (A1 (A2 (i:=0) rfl) A7)) A7)) (by rw[hlen];omega)) (by rw[hz];unfold T3;rw[Aa3,List.length_range];unfold PySem.sizeLine;omega) (λd hd=>by
  rw[hz]at hd;unfold T3 at hd;obtain ⟨i,hi,rfl⟩:=Aa8.mp hd;have hi:=Ab5.mp hi;have e:fO tr (.int (3+(i:Int)))=some (tI [(TT.og tr 0 (i+3):Int),(TT.og tr 1 (i+3):Int),(TT.og tr 2 (i+3):Int)]):=by
   show some (tI [(TT.og tr 0 (3+(i:Int)).toNat:Int),(TT.og tr 1 (3+(i:Int)).toNat:Int),(TT.og tr 2 (3+(i:Int)).toNat:Int)])=_
   rw[show(3+(i:Int)).toNat=i+3 by omega]
  rw[e];exact⟨_,B9,aK7,E3 (A1 (A2 (i:=1) rfl) (A1 (A2 (i:=2) rfl) (A1 (A2 (i:=0) rfl) A7))) ⟨m,dr,tr,i+3,dw,by omega,by omega,by rw[show((i+3:Nat):Int)=3+(i:Int) by omega],rfl⟩⟩)
 have eo:(T3 3 m).filterMap (fO tr)=(trI tr).map tI:=by
  refine List.ext_getElem? λj=>?_
  unfold T3;rw[List.filterMap_map,Aa9];rw[show(List.range m).filterMap (fO tr ∘ λ(i:Nat)=>PyData.int (3+(i:Int)))=(List.range m).map λi=>tI [(TT.og tr 0 (i+3):Int),(TT.og tr 1 (i+3):Int),(TT.og tr 2 (i+3):Int)] from by
   rw[<- List.filterMap_eq_map];refine U0 λi _=>?_
   show some (tI [(TT.og tr 0 (3+(i:Int)).toNat:Int),(TT.og tr 1 (3+(i:Int)).toNat:Int),(TT.og tr 2 (3+(i:Int)).toNat:Int)])=_
   rw[show(3+(i:Int)).toNat=i+3 by omega];rfl]
  rw[Aa9];by_cases hj:j<m
  ·have h1:=V3 B hj
   rw[Ac0,Aa2 (by rw[N3 B];exact hj)]at h1
   rw[List.getElem?_range hj,Aa2 (by rw[N3 B];exact hj)]
   simp only[Option.getD_some]at h1;rw[h1];rfl
  ·rw[Ad6 (by rw[List.length_range];omega),Ad6 (by rw[N3 B];omega)];rfl
 rw[hz,eo,<- aX6]at cm;exact L9 (U9 (A1 (EF.e' cm) A7) (Y8 bG9 _)) rfl
end
end K18
namespace TT
open Classical
def par (w:Nat->Bool):List Nat->Bool
 | []=>false
 | a::l=>xor (w a) (par w l)
theorem W8 (w:Nat->Bool):∀l m:List Nat,par w (l++m)=xor (par w l) (par w m)
 | [],m=>by simp[par]
 | a::l,m=>by simp[par,W8 w l m]
theorem o5 {w:Nat->Bool}:∀{l:List Nat},(∀a∈l,w a=false)->par w l=false
 | [],_=>rfl
 | a::l,h=>by simp[par,h a (by simp),o5 (l:=l) λb hb=>h b (by simp[hb])]
theorem aT5 (w u:Nat->Bool):∀l:List Nat,par (λa=>xor (w a) (u a)) l=xor (par w l) (par u l)
 | []=>rfl
 | a::l=>by
  simp only[par,aT5 w u l];cases w a <;> cases u a <;> cases par w l <;> cases par u l <;> rfl
theorem t7 {w u:Nat->Bool}:∀{l:List Nat},(∀a∈l,w a=u a)->par w l=par u l
 | [],_=>rfl
 | a::l,h=>by simp[par,h a (by simp),t7 (l:=l) λb hb=>h b (by simp[hb])]
theorem aY8 {w:Nat->Bool}{s:Nat}:∀{l:List Nat},l.Nodup->s∈l->(∀a∈l,a≠s->w a=false)->par w l=w s
 | [],_,h,_=>by cases h
 | a::l,nd,h,hz=>by
  rw[Aa5]at nd;by_cases e:a=s
  ·subst e
   simp[par,o5 (l:=l) λb hb=>hz b (by simp[hb]) λe=>nd.1 (e▸hb)]
  ·have hs:s∈l:=by rcases Aa1.mp h with h | h;exact absurd h.symm e;exact h
   simp[par,hz a (by simp) e,aY8 nd.2 hs λb hb=>hz b (by simp[hb])]
theorem bJ2 {w:Nat->Bool}{s t:Nat}(hst:s≠t){l:List Nat}(nd:l.Nodup)(hs:s∈l)(ht:t∈l)(hz:∀a∈l,a≠s->a≠t->w a=false):par w l=xor (w s) (w t):=by
 have e:par w l=par (λa=>xor (if a=s then w s else false) (if a=t then w t else false)) l:=t7 λa ha=>by
  by_cases h1:a=s
  ·subst h1;simp[hst]
  ·by_cases h2:a=t
   ·subst h2;simp[h1]
   ·simp[h1,h2,hz a ha h1 h2]
 rw[e,aT5,aY8 nd hs λa _ h=>by simp[h],aY8 nd ht λa _ h=>by simp[h]]
 simp
theorem lin_iff:∀{l:List Nat} {a b:Nat},lin l a b↔∃p s,l=p++a::b::s
 | [],a,b=>by simp[lin]
 | [c],a,b=>by
  simp only[lin,false_iff];rintro ⟨p,s,e⟩
  have:=congrArg List.length e
  simp at this
  omega
 | c::d::l,a,b=>by
  rw[B8,lin_iff (l:=d::l)];constructor
  ·rintro (⟨rfl,rfl⟩ | ⟨p,s,e⟩)
   ·exact⟨[],l,rfl⟩
   ·exact⟨c::p,s,by rw[e];rfl⟩
  ·rintro ⟨p,s,e⟩;cases p with
   | nil=>simp at e;exact .inl ⟨e.1.symm,e.2.1.symm⟩
   | cons c' p=>simp at e;exact .inr ⟨p,s,e.2⟩
theorem adj_iff {l:List Nat}{a b:Nat}:adj l a b↔(∃p s,l=p++a::b::s)\/∃p,l=p++[a]/\l.head? = some b:=by
 unfold adj;rw[lin_iff];cases l with
 | nil=>simp
 | cons c l=>
  simp only[List.take_succ_cons,List.take_zero,List.head?_cons,Option.some.injEq];constructor
  ·rintro ⟨p,s,e⟩;rcases Ac5 s with hs | ⟨s',d,hs⟩
   ·subst hs;have e':(c::l)++[c]=(p++[a])++[b]:=by rw[e];simp
    have:=List.append_inj' e' rfl
    exact .inr ⟨p,this.1,by simpa using this.2⟩
   ·subst hs;have e':(c::l)++[c]=(p++a::b::s')++[d]:=by rw[e];simp
    exact .inl ⟨p,s',(List.append_inj' e' rfl).1⟩
  ·rintro (⟨p,s,e⟩ | ⟨p,e,rfl⟩)
   ·exact⟨p,s++[c],by rw[e];simp⟩
   ·exact⟨p,[],by rw[e];simp⟩
theorem N8 {l p s:List Nat}{u:Nat}(nd:l.Nodup)(e:l=p++u::s):l.idxOf u=p.length:=by
 have hp:u∉p:=λhm=>by rw[e]at nd;exact(Aa4.mp nd).2.2 u hm u (by simp) rfl
 rw[e,List.idxOf_append,if_neg hp];simp
theorem pot {l:List Nat}(nd:l.Nodup){w:Nat->Bool}(h:par w l=false):∃G:Nat->Bool,∀a b,adj l a b->xor (G a) (G b)=w b:=by
 refine⟨λu=>par w (l.take (l.idxOf u+1)),λa b hab=>?_⟩
 have at_:∀(p s:List Nat) (u:Nat),l=p++u::s->l.take (l.idxOf u+1)=p++[u]:=λp s u e=>by
  rw[N8 nd e,e,show p++u::s=(p++[u])++s by simp]
  exact List.take_left' (by simp)
 rcases adj_iff.mp hab with ⟨p,s,e⟩ | ⟨p,e,hb⟩
 ·dsimp only
  rw[at_ p (b::s) a e,at_ (p++[a]) s b (by rw[e];simp),W8,W8,W8]
  simp only[par];cases par w p <;> cases w a <;> cases w b <;> rfl
 ·dsimp only
  rw[at_ p [] a e];cases l with
  | nil=>simp at hb
  | cons c r=>
   simp at hb;subst hb
   rw[<- e,h,at_ [] r c rfl]
   simp[par]
structure Cyc (r:Nat->List Nat)(z:Nat->Nat->Bool):Prop where
 sym:∀p q,z p q=z q p
 sup:∀p q,z p q=true->q∈r p
 ev:∀p,par (z p) (r p)=false
def H1 (r:Nat->List Nat):Prop:=∀z,Cyc r z->∃f:Nat->Nat->Bool,(∀q a b,adj (r q) a b->f q a=f a b)/\∀p s q,adj (r p) s q->xor (f p s) (f p q)=z p q
theorem aS9 {l:List Nat}(nd:l.Nodup)(h3:3<=l.length){a b:Nat}(h1:adj l a b)(h2:adj l b a):False:=by
 have hab:a≠b:=λe=>by
  subst e;rcases adj_iff.mp h1 with ⟨p,s,e⟩ | ⟨p,e,hb⟩
  ·rw[e]at nd
   have:=(Aa4.mp nd).2.1
   simp at this
  ·cases p with
   | nil=>rw[e]at h3;simp at h3
   | cons c p=>rw[e]at hb nd;simp at hb;subst hb;simp at nd
 rcases adj_iff.mp h1 with ⟨p,s,e⟩ | ⟨p,e,hb⟩
 ·rcases adj_iff.mp h2 with ⟨p',s',e'⟩ | ⟨p',e',hb'⟩
  ·have i1:=N8 nd e
   have i2:=N8 nd e'
   have i3:=N8 (p:=p++[a]) (u:=b) (s:=s) nd (by rw[e];simp)
   have i4:=N8 (p:=p'++[b]) (u:=a) (s:=s') nd (by rw[e'];simp)
   simp at i3 i4
   omega
  ·-- b is the last,a the first
   cases p with
   | cons c p=>rw[e]at hb' nd;simp at hb';subst hb';simp at nd
   | nil=>
    cases s with
    | nil=>rw[e]at h3;simp at h3
    | cons d s=>
     rw[e]at e' nd;rcases Ac5 (d::s) with h | ⟨s'',g,h⟩
     ·cases h
     ·rw[h]at e' nd;have e4:([]++a::b::s''.concat g)=(a::b::s'')++[g]:=by simp
      rw[e4]at e' nd
      have:=(List.append_inj' e' rfl).2
      simp at this
      subst this;simp at nd
 ·rcases adj_iff.mp h2 with ⟨p',s',e'⟩ | ⟨p',e',hb'⟩
  ·cases p' with
   | cons c p'=>rw[e']at hb nd;simp at hb;subst hb;simp at nd
   | nil=>
    cases s' with
    | nil=>rw[e']at h3;simp at h3
    | cons d s=>
     rw[e']at e nd;rcases Ac5 (d::s) with h | ⟨s'',g,h⟩
     ·cases h
     ·rw[h]at e nd;have e4:([]++b::a::s''.concat g)=(b::a::s'')++[g]:=by simp
      rw[e4]at e nd
      have:=(List.append_inj' e rfl).2
      simp at this
      subst this;simp at nd
  ·have:=List.append_inj' (e.symm.trans e') rfl
   exact hab (by simpa using this.2)
theorem bV1 {g:Nat->Bool}:∀(a:Nat) (l:List Nat),(∀s q,lin (a::l) s q->g s=g q)->∀c∈l,g c=g a
 | a,[],_,c,hc=>by cases hc
 | a,b::l,h,c,hc=>by
  have hab:g a=g b:=h a b (by rw[B8];exact .inl ⟨rfl,rfl⟩)
  rcases Aa1.mp hc with rfl | hc
  ·exact hab.symm
  ·rw[hab];exact bV1 b l (λs q hs=>h s q (by rw[B8];exact .inr hs)) c hc
theorem bT4:H1 S.first.row:=by
 intro z Z;have r0:S.first.row 0=[1,2]:=rfl;have r1:S.first.row 1=[2,0]:=rfl;have r2:S.first.row 2=[0,1]:=rfl;have rh:∀q,3<=q->S.first.row q=[]:=λq hq=>aN1 (s:=S.first) hq
 have e0:=Z.ev 0
 have e1:=Z.ev 1
 have e2:=Z.ev 2
 rw[r0]at e0;rw[r1]at e1;rw[r2]at e2;simp only[par,Bool.xor_false]at e0 e1 e2;have s1:=Z.sym 0 1;have s2:=Z.sym 0 2;have s3:=Z.sym 1 2;refine⟨λp q=>if(p=0/\q=1)\/(p=1/\q=2)\/(p=2/\q=0) then z 0 1 else false,λq a b h=>?_,λp s q h=>?_⟩
 ·have hq:q<3:=by
   by_cases hq:q<3
   ·exact hq
   ·rw[rh q (by omega)]at h;exact absurd (G7 h).1 (by simp)
  rcases (show q=0\/q=1\/q=2 by omega) with rfl | rfl | rfl
  ·rw[r0]at h;simp[adj,lin]at h;rcases h with ⟨rfl,rfl⟩ | ⟨rfl,rfl⟩ <;> simp
  ·rw[r1]at h;simp[adj,lin]at h;rcases h with ⟨rfl,rfl⟩ | ⟨rfl,rfl⟩ <;> simp
  ·rw[r2]at h;simp[adj,lin]at h;rcases h with ⟨rfl,rfl⟩ | ⟨rfl,rfl⟩ <;> simp
 ·have hq:p<3:=by
   by_cases hq:p<3
   ·exact hq
   ·rw[rh p (by omega)]at h;exact absurd (G7 h).1 (by simp)
  rcases (show p=0\/p=1\/p=2 by omega) with rfl | rfl | rfl
  ·rw[r0]at h;simp[adj,lin]at h;rcases h with ⟨rfl,rfl⟩ | ⟨rfl,rfl⟩ <;> simp <;> grind
  ·rw[r1]at h;simp[adj,lin]at h;rcases h with ⟨rfl,rfl⟩ | ⟨rfl,rfl⟩ <;> simp <;> grind
  ·rw[r2]at h;simp[adj,lin]at h;rcases h with ⟨rfl,rfl⟩ | ⟨rfl,rfl⟩ <;> simp <;> grind
theorem bx1:∀A X V Y B:Bool,xor A (xor X (xor V (xor Y B)))=false->xor A (xor X (xor false (xor Y B)))=V:=by decide
theorem bx2:∀A X V Y B:Bool,xor A (xor X (xor V (xor Y B)))=false->xor A (xor X (xor Y B))=V:=by decide
theorem bx3:∀A T V B:Bool,xor A (xor T (xor V B))=false->xor A (xor T B)=V:=by decide
theorem bx4:∀A Z V B:Bool,xor A (xor Z (xor V B))=false->xor A (xor Z (xor false B))=V:=by decide
section
variable {row row':Nat->List Nat}{v x y:Nat}{L C R:List Nat}
theorem Edit.sym' (E:Edit row row' v x y L C R){p q:Nat}(h:q∈row' p):p∈row' q:=by
 obtain ⟨b,hb⟩:=aD6 h;exact(G7 (E.tri' _ _ _ hb)).2
theorem Edit.mem_old (E:Edit row row' v x y L C R){p q:Nat}(hp:p≠v)(hq:q≠v)(h:q∈row' p):q∈row p:=by
 by_cases h2:p=2
 ·subst h2;rw[E.new2]at h;rw[E.two];simp only[Aa0,Aa1]at h ⊢;grind
 by_cases hx:p=x
 ·subst hx;obtain ⟨u,z,w,e1,e2⟩:=E.rx;rw[e2]at h;rw[e1];simp only[Aa0,Aa1]at h ⊢;grind
 by_cases hy:p=y
 ·subst hy;obtain ⟨u,w,e1,e2⟩:=E.ry;rw[e2]at h;rw[e1];simp only[Aa0,Aa1]at h ⊢;grind
 by_cases hc:p∈C
 ·obtain ⟨u,z,w,e1,e2⟩:=E.rc p hc;rw[e2]at h;rw[e1];simp only[Aa0,Aa1]at h ⊢;grind
 ·rw[E.rest p h2 hp hx hy hc]at h;exact h
theorem Edit.par_old (E:Edit row row' v x y L C R){w:Nat->Nat->Bool}(Z:Cyc row' w){p:Nat}(hp:p≠v):par (w p) (row p)=w p v:=by
 obtain ⟨⟨f1,f2,f3,f4,f5⟩,fC,nd2⟩:=E.facts;have ev:=Z.ev p;have no:∀q,q∉row' p->w p q=false:=λq hq=>by
  cases h:w p q with
  | false=>rfl
  | true=>exact absurd (Z.sup p q h) hq
 have nd':=E.nd' p
 by_cases h2:p=2
 ·subst h2;rw[E.new2]at ev;rw[E.two];have hc:par (w 2) C=false:=o5 λc hc=>no c (by
   rw[E.new2]
   have:=fC c hc
   simp only[Aa4,Aa5,Aa0,Aa1,not_or]at nd2;simp only[Aa0,Aa1,not_or];grind)
  simp only[W8,par,hc]at ev ⊢;exact bx1 _ _ _ _ _ ev
 by_cases hx:p=x
 ·subst hx;obtain ⟨u,z,w',e1,e2⟩:=E.rx;rw[e2]at ev;rw[e1];simp only[W8,par]at ev ⊢;exact bx2 _ _ _ _ _ ev
 by_cases hy:p=y
 ·subst hy;obtain ⟨u,w',e1,e2⟩:=E.ry;rw[e2]at ev;rw[e1];simp only[W8,par]at ev ⊢;exact bx3 _ _ _ _ ev
 by_cases hc:p∈C
 ·obtain ⟨u,z,w',e1,e2⟩:=E.rc p hc;have n2:w p 2=false:=no 2 (by
   have:=E.nd p
   rw[e1]at this;have v2:=E.v2;rw[e2];simp only[Aa4,Aa5,Aa0,Aa1,not_or]at this ⊢;grind)
  rw[e2]at ev;rw[e1];simp only[W8,par,n2]at ev ⊢;exact bx4 _ _ _ _ ev
 ·have e:=E.rest p h2 hp hx hy hc
  rw[e]at ev;rw[ev,no v (by rw[e];exact E.fresh p)]
theorem cD8 (E:Edit row row' v x y L C R)(h:H1 row):H1 row':=by
 intro z' Z;obtain ⟨⟨f1,f2,f3,f4,f5⟩,fC,nd2⟩:=E.facts;have v2:=E.v2;have ndD:=E.nd' v;have hD3:3<=(row' v).length:=by rw[E.newv];simp
 obtain ⟨G,hG⟩:=pot ndD (Z.ev v);have nv:∀{q},q∈row' v->q≠v:=λ{q} hq e=>E.self' v (e▸hq)
 have in':∀{a b},adj (row' v) a b->a∈row' b/\b∈row' a/\a≠v/\b≠v:=λ{a b} hab=>by
  have t1:=E.tri' _ _ _ hab
  have t2:=E.tri' _ _ _ t1
  exact⟨(G7 t2).2,(G7 t1).1,nv (G7 hab).1,nv (G7 hab).2⟩
 let lk:Nat->Nat->Bool:=λp q=>if adj (row' v) p q then G p else if adj (row' v) q p then G q else false
 have lksym:∀p q,lk p q=lk q p:=λp q=>by
  simp only[lk];by_cases h1:adj (row' v) p q <;> by_cases h2:adj (row' v) q p
  ·exact(aS9 ndD hD3 h1 h2).elim
  ·simp[h1,h2]
  ·simp[h1,h2]
  ·simp[h1,h2]
 let z:Nat->Nat->Bool:=λp q=>if p=v\/q=v then false else xor (z' p q) (lk p q)
 have zz:∀p q,p≠v->q≠v->z p q=xor (z' p q) (lk p q):=λp q h1 h2=>by simp[z,h1,h2]
 have Z0:Cyc row z:=by
  refine⟨λp q=>?_,λp q hz=>?_,λp=>?_⟩
  ·simp only[z];rw[Z.sym p q,lksym p q];by_cases h1:p=v <;> by_cases h2:q=v <;> simp[h1,h2]
  ·by_cases h1:p=v\/q=v
   ·simp only[z]at hz;rw[if_pos h1]at hz;cases hz
   ·have h1':p≠v/\q≠v:=by simpa using h1
    rw[zz p q h1'.1 h1'.2]at hz;refine E.mem_old h1'.1 h1'.2 ?_;cases hz':z' p q with
    | true=>exact Z.sup p q hz'
    | false=>
     rw[hz']at hz;by_cases a1:adj (row' v) p q
     ·exact(in' a1).2.1
     ·by_cases a2:adj (row' v) q p
      ·exact(in' a2).1
      ·simp[lk,a1,a2]at hz
  ·by_cases hp:p=v
   ·subst hp;rw[E.oldv];rfl
   ·have e1:par (z p) (row p)=par (λq=>xor (z' p q) (lk p q)) (row p):=t7 λq hq=>zz p q hp λe=>E.fresh p (e▸hq)
    rw[e1,aT5,E.par_old Z hp];by_cases hm:p∈row' v
    ·obtain ⟨s,hs⟩:=aD6 hm;obtain ⟨t,ht⟩:=bD1 hm;have hst:s≠t:=λe=>aS9 ndD hD3 hs (e▸ht)
     have e2:=bJ2 (w:=lk p) hst (E.nd p) (E.mem_old hp (in' hs).2.2.2 (in' hs).2.1) (E.mem_old hp (in' ht).2.2.1 (in' ht).1) (λq _ h1 h2=>by
      simp only[lk];rw[if_neg λha=>h1 (aC8 ndD ha hs),if_neg λha=>h2 (bB5 ndD ha ht)])
     have l1:lk p s=G p:=by simp[lk,hs]
     have l2:lk p t=G t:=by
      simp only[lk];rw[if_neg λha=>hst (aC8 ndD hs ha),if_pos ht]
     rw[e2,l1,l2,Z.sym p v,<- hG t p ht];cases G t <;> cases G p <;> rfl
    ·rw[o5 λq _=>by simp only[lk];rw[if_neg λha=>hm (G7 ha).1,if_neg λha=>hm (G7 ha).2]]
     cases hz:z' p v with
     | false=>rfl
     | true=>exact absurd (E.sym' (Z.sup p v hz)) hm
 obtain ⟨f,fr,fb⟩:=h z Z0;have fb':∀p q,q∈row p->xor (f p q) (f q p)=z p q:=λp q hq=>by
  obtain ⟨s,hs⟩:=bD1 hq
  have:=fb p s q hs
  have t1:=E.tri _ _ _ hs
  rw[<- this,fr _ _ _ hs,fr _ _ _ t1];cases f q p <;> cases f p q <;> rfl
 have lkC:∀c∈C,lk 2 c=false:=λc hc=>by
  have fc:=fC c hc
  have aD:∀a b,adj (row' v) a b↔EE x y C a b\/(a=y/\b=2)\/(a=2/\b=x):=λa b=>by
   rw[E.newv];unfold adj EE
   have:x::(C++[y,2])++List.take 1 (x::(C++[y,2]))=(x::C)++y::[2,x]:=by simp
   rw[this,C5];simp only[B8,t9,or_false]
   simp
  simp only[lk];have m1:¬adj (row' v) 2 c:=λha=>by
   rcases (aD _ _).mp ha with h | h | h
   ·have:=o9 h;grind
   ·exact absurd h.1.symm f3
   ·exact fc.1 h.2
  have m2:¬adj (row' v) c 2:=λha=>by
   rcases (aD _ _).mp ha with h | h | h
   ·have:=o9 h;grind
   ·exact fc.2.1 h.1
   ·exact fc.2.2.1 h.1
  rw[if_neg m1,if_neg m2]
 have k2:∀c∈C,f 2 c=f 2 x:=bV1 (g:=f 2) x C λs q hs=>by
  have hq:q∈C:=V1 hs
  have he:EE x y C s q:=by
   unfold EE
   have:x::(C++[y])=(x::C)++[y]:=rfl
   rw[lin_iff]at hs ⊢;obtain ⟨p,w,e⟩:=hs;exact⟨p,w++[y],by rw[this,e];simp⟩
  have:=fb 2 s q (j4 E he)
  have fc:=fC q hq
  have z2:z 2 q=false:=by
   rw[zz 2 q (Ne.symm v2) fc.2.2.2,lkC q hq];cases hz:z' 2 q with
   | false=>rfl
   | true=>
    have:=Z.sup 2 q hz
    rw[E.new2]at this;simp only[Aa4,Aa5,Aa0,Aa1,not_or]at nd2 this;grind
  rw[z2]at this;cases h1:f 2 s <;> cases h2:f 2 q <;> simp[h1,h2]at this ⊢
 generalize hκ:f 2 x=κ at k2;have aD:∀a b,adj (row' v) a b↔EE x y C a b\/(a=y/\b=2)\/(a=2/\b=x):=λa b=>by
  rw[E.newv];unfold adj EE
  have:x::(C++[y,2])++List.take 1 (x::(C++[y,2]))=(x::C)++y::[2,x]:=by simp
  rw[this,C5];simp only[B8,t9,or_false]
  simp
 have fk:∀a b,adj (row' v) a b->f a b=κ:=λa b ha=>by
  have ee:∀{a b},EE x y C a b->f 2 a=κ:=λ{a b} he=>by
   rcases (o9 he).1 with rfl | hc
   ·exact hκ
   ·exact k2 a hc
  rcases (aD a b).mp ha with he | ⟨rfl,rfl⟩ | ⟨rfl,rfl⟩
  ·rw[<- fr 2 a b (j4 E he)];exact ee he
  ·-- the last ahead of y
   obtain ⟨t,ht⟩:∃t,EE x a C t a:=by
    unfold EE;rcases Ac5 (x::C) with h | ⟨p,t,h⟩
    ·cases h
    ·refine⟨t,lin_iff.mpr ⟨p,[],?_⟩⟩
     have:x::(C++[a])=(x::C)++[a]:=rfl
     rw[this,h];simp
   have h1:=j4 E ht
   have t1:=E.tri _ _ _ h1
   rw[<- fr _ _ _ t1,<- fr _ _ _ h1];exact ee ht
  ·exact hκ
 refine⟨λp q=>if p=v then xor κ (G q) else if q=v then xor κ (xor (G p) (z' v p)) else if adj (row' v) p q then xor κ (G p) else f p q,λq a b hab=>?_,λp s q hsq=>?_⟩
 ·have t1:=E.tri' _ _ _ hab
  have t2:=E.tri' _ _ _ t1
  have gp:∀{a b},adj (row' v) a b->xor (G b) (z' v b)=G a:=λ{a b} h=>by rw[<- hG a b h];cases G a <;> cases G b <;> rfl
  dsimp only
  by_cases hq:q=v
  ·subst hq;have i:=in' hab;rw[if_pos rfl,if_neg i.2.2.1,if_neg i.2.2.2,if_pos hab]
  by_cases ha:a=v
  ·subst ha;have i:=in' t1;rw[if_neg hq,if_pos rfl,if_pos rfl,gp t1]
  by_cases hb:b=v
  ·subst hb;rw[if_neg hq,if_neg ha,if_pos t2,if_neg ha,if_pos rfl,gp t2]
  ·have n1:¬adj (row' v) q a:=λh=>hb (aC8 (E.nd' q) hab (E.tri' _ _ _ h))
   have n2:¬adj (row' v) a b:=λh=>hq (aC8 (E.nd' a) t1 (E.tri' _ _ _ h))
   rw[if_neg hq,if_neg ha,if_neg n1,if_neg ha,if_neg hb,if_neg n2];rcases (bG2 E q a b).mp hab with ⟨h1,_⟩ | h1
   ·exact fr _ _ _ h1
   ·unfold W' at h1;grind
 ·have t1:=E.tri' _ _ _ hsq
  have t2:=E.tri' _ _ _ t1
  dsimp only
  by_cases hp:p=v
  ·subst hp;rw[if_pos rfl,if_pos rfl,<- hG s q hsq];cases κ <;> cases G s <;> cases G q <;> rfl
  by_cases hs:s=v
  ·subst hs;have i:=in' t1;have n1:¬adj (row' s) p q:=λh=>aS9 ndD hD3 t1 h
   rw[if_neg hp,if_pos rfl,if_neg hp,if_neg i.2.2.1,if_neg n1];have e1:=fb' p q (E.mem_old hp i.2.2.1 i.1);rw[fk q p t1,zz p q hp i.2.2.1]at e1;have l1:lk p q=G q:=by simp only[lk];rw[if_neg n1,if_pos t1]
   rw[l1]at e1;have e2:=hG q p t1;rw[<- e2];cases h1:f p q <;> cases h2:z' p q <;> cases h3:G q <;> cases h4:G p <;> cases h5:κ <;> simp[h1,h2,h3,h5]at e1 ⊢
  by_cases hq:q=v
  ·subst hq;have i:=in' t2;rw[if_neg hp,if_neg hs,if_pos t2,if_neg hp,if_pos rfl,Z.sym p q];cases κ <;> cases G p <;> cases z' q p <;> rfl
  ·have n1:¬adj (row' v) p s:=λh=>hq (aC8 (E.nd' p) hsq (E.tri' _ _ _ h))
   have n2:¬adj (row' v) q p:=λh=>hs (bB5 (E.nd' p) hsq (E.tri' _ _ _ (E.tri' _ _ _ h)))
   have o:adj (row p) s q:=by
    rcases (bG2 E p s q).mp hsq with ⟨h1,_⟩ | h1
    ·exact h1
    ·unfold W' at h1;grind
   have e1:=fb p s q o
   rw[zz p q hp hq]at e1;rw[if_neg hp,if_neg hs,if_neg n1,if_neg hp,if_neg hq];by_cases n3:adj (row' v) p q
   ·have l1:lk p q=G p:=by simp only[lk];rw[if_pos n3]
    rw[if_pos n3];rw[l1,fk p q n3]at e1;cases h1:f p s <;> cases h2:z' p q <;> cases h3:G p <;> cases h5:κ <;> simp[h1,h2,h3,h5]at e1 ⊢
   ·have l1:lk p q=false:=by simp only[lk];rw[if_neg n3,if_neg n2]
    rw[if_neg n3,e1,l1];simp
end
theorem bQ7 {F G:Nat->Nat}{m:Nat}(R:Rws F G m):∀i,i<=m->H1 (gst F G i).row
 | 0,_=>bT4
 | i+1,hi=>by
  have I:=O8 R i (by omega)
  have f1:=R.f1 i (by omega)
  have f2:=R.f2 i (by omega)
  have g1:=R.g1 i (by omega)
  have g2:=R.g2 i (by omega)
  have h1:=I.p
  have h2:=I.h
  obtain ⟨x,px,y,hy,ex,ey,E,_⟩:=aU0 I.inv (a:=F i-pv F i) (b:=G i-pv G i) (by omega) (by omega)
  exact cD8 E (bQ7 R i (by omega))
theorem bN6 (w:Nat->Bool)(f:Nat->Nat):∀l:List Nat,par w (l.map f)=par (λa=>w (f a)) l
 | []=>rfl
 | a::l=>by simp[par,bN6 w f l]
theorem bB6 {w:Nat->Bool}{l m:List Nat}(h:l.Perm m):par w l=par w m:=by
 induction h with
 | nil=>rfl
 | cons a _ ih=>simp[par,ih]
 | swap a b l=>simp only[par];cases w a <;> cases w b <;> cases par w l <;> rfl
 | trans _ _ h1 h2=>exact h1.trans h2
theorem H1.named {n:Nat}{r r':Nat->List Nat}{f:Nat->Nat}(G:Good n r)(F:Nm n f)(h:∀v,v<n->r' (f v)=U6 ((r v).map f))(hh:∀q,n<=q->r' q=[])(H:H1 r):H1 r':=by
 intro z' Z;have G':=G.named F h hh;have gi:∀q,∃v,q<n->v<n/\f v=q:=λq=>by
  by_cases hq:q<n
  ·obtain ⟨v,h1,h2⟩:=F.surj q hq;exact⟨v,λ_=>⟨h1,h2⟩⟩
  ·exact⟨0,λz=>absurd z hq⟩
 let g:Nat->Nat:=λq=>Classical.choose (gi q)
 have hg:∀q,q<n->g q<n/\f (g q)=q:=λq hq=>Classical.choose_spec (gi q) hq
 have gf:∀v,v<n->g (f v)=v:=λv hv=>F.inj _ _ (hg _ (F.lt v hv)).1 hv (hg _ (F.lt v hv)).2
 have mem':∀v,v<n->∀x,x∈r' (f v)↔∃a,a∈r v/\x=f a:=λv hv x=>by
  rw[h v hv,aQ5,Aa8];exact⟨λ⟨a,h1,h2⟩=>⟨a,h1,h2.symm⟩,λ⟨a,h1,h2⟩=>⟨a,h1,h2.symm⟩⟩
 have adj1:∀v,v<n->∀x y,adj (r' (f v)) x y↔∃a b,x=f a/\y=f b/\adj (r v) a b:=λv hv x y=>by rw[h v hv,aR2,bI9]
 have Z0:Cyc r λp q=>if p<n/\q<n then z' (f p) (f q) else false:=by
  refine⟨λp q=>?_,λp q hz=>?_,λp=>?_⟩
  ·by_cases h1:p<n <;> by_cases h2:q<n <;> simp[h1,h2,Z.sym (f p) (f q)]
  ·by_cases h1:p<n/\q<n
   ·rw[if_pos h1]at hz;obtain ⟨a,ha,e⟩:=(mem' p h1.1 _).mp (Z.sup _ _ hz);rw[F.inj q a h1.2 (G.lt p a ha) e];exact ha
   ·rw[if_neg h1]at hz;cases hz
  ·by_cases hp:p<n
   ·have ev:=Z.ev (f p)
    rw[h p hp,bB6 (Z3 _),bN6]at ev;rw[<- ev];exact t7 λq hq=>by simp[hp,G.lt p q hq]
   ·rw[G.hi p (by omega)];rfl
 obtain ⟨f0,fr,fb⟩:=H _ Z0;refine⟨λp q=>f0 (g p) (g q),λq a b hab=>?_,λp s q hsq=>?_⟩
 ·have hq:q<n:=by
   by_cases hq:q<n
   ·exact hq
   ·rw[hh q (by omega)]at hab;exact absurd (G7 hab).1 (by simp)
  obtain ⟨v,hv,rfl⟩:=F.surj q hq;obtain ⟨c,d,rfl,rfl,hcd⟩:=(adj1 v hv a b).mp hab;have hc:=G.lt v c (G7 hcd).1;have hd:=G.lt v d (G7 hcd).2;dsimp only;rw[gf v hv,gf c hc,gf d hd];exact fr _ _ _ hcd
 ·have hq:p<n:=by
   by_cases hq:p<n
   ·exact hq
   ·rw[hh p (by omega)]at hsq;exact absurd (G7 hsq).1 (by simp)
  obtain ⟨v,hv,rfl⟩:=F.surj p hq;obtain ⟨c,d,rfl,rfl,hcd⟩:=(adj1 v hv s q).mp hsq;have hc:=G.lt v c (G7 hcd).1;have hd:=G.lt v d (G7 hcd).2;dsimp only;rw[gf v hv,gf c hc,gf d hd,fb _ _ _ hcd]
  simp[hv,hd]
theorem Bt.h1 {F G:Nat->Nat}{m:Nat}{f:Nat->Nat}{d t:List (List Nat)}(B:Bt F G m f d t):H1 (trn d):=by
 refine H1.named (bD3 B.R) B.N (λv hv=>?_) (λq hq=>?_) (bQ7 B.R m (Aa7 _))
 ·unfold trn;rw[B.dr v hv];rfl
 ·unfold trn;rw[Ad6 (by rw[B.dl];exact hq)];rfl
theorem bH6 {l u w:List Nat}{s q:Nat}(e:l=u++w)(h:adj (w++u) s q):adj l s q:=by
 rw[e];exact(i7 u w s q).mp h
section
variable {r:Nat->List Nat}{n:Nat}{rim:List Nat}{R:Nat->Prop}
def gi (rim:List Nat)(k:Nat):Nat:=rim.getD k 0
theorem aM1 {k:Nat}(h:k<rim.length):rim[k]? = some (gi rim k):=by
 unfold gi;rw[Ac0,Aa2 h];rfl
theorem bX6 {k:Nat}(h:k<rim.length):gi rim k∈rim:=List.mem_of_getElem? (aM1 h)
theorem cO5 (nd:rim.Nodup){j k:Nat}(hj:j<rim.length)(hk:k<rim.length)(e:gi rim j=gi rim k):j=k:=by
 have h1:=aM1 hj
 have h2:=aM1 hk
 rw[<- e]at h2;rw[Aa2 hj]at h1;rw[Aa2 hk]at h2;have e':rim[j]=rim[k]:=by rw[Ab4 h1,Ab4 h2]
 by_cases hlt:j<k
 ·exact absurd e' (List.pairwise_iff_getElem.mp nd j k hj hk hlt)
 ·by_cases hgt:k<j
  ·exact absurd e'.symm (List.pairwise_iff_getElem.mp nd k j hk hj hgt)
  ·omega
theorem cJ1 {k:Nat}(h:k+1<rim.length):adj rim (gi rim k) (gi rim (k+1)):=by
 refine adj_iff.mpr (.inl ⟨rim.take k,rim.drop (k+2),?_⟩);have h1:=aM1 (rim:=rim) (k:=k) (by omega)
 have h2:=aM1 h
 rw[Aa2 (by omega)]at h1
 rw[Aa2 h]at h2;rw[<- Ab4 h1,<- Ab4 h2];rw[<- List.drop_eq_getElem_cons h,<- List.drop_eq_getElem_cons (show k<rim.length by omega),Ad3]
theorem aM8 {z f:Nat->Nat->Bool}(fb:∀p s q,adj (r p) s q->xor (f p s) (f p q)=z p q){p:Nat}(hz:∀q,z p q=false){q q':Nat}(h:q∈r p)(h':q'∈r p):f p q=f p q':=by
 cases e:r p with
 | nil=>rw[e]at h;cases h
 | cons a l=>
  have key:=bV1 (g:=f p) a l λs t hs=>by
   have:=fb p s t (by rw[e];unfold adj;rw[lin_iff]at hs ⊢;obtain ⟨x,y,e'⟩:=hs;exact⟨x,y++List.take 1 (a::l),by rw[e'];simp⟩)
   rw[hz t]at this;cases h1:f p s <;> cases h2:f p t <;> simp[h1,h2]at this ⊢
  have k2:∀t∈r p,f p t=f p a:=λt ht=>by
   rw[e]at ht;rcases Aa1.mp ht with rfl | ht
   ·rfl
   ·exact key t ht
  rw[k2 q h,k2 q' h']
end
theorem P9 {L:List Nat}{q:Nat}(h:q∈L):gi L (L.idxOf q)=q:=by
 unfold gi;rw[Ac0,Aa2 (List.idxOf_lt_length_iff.mpr h)]
 simp
theorem aU2 {L:List Nat}(nd:L.Nodup){k:Nat}(h:k<L.length):L.idxOf (gi L k)=k:=
 cO5 nd (List.idxOf_lt_length_iff.mpr (bX6 h)) h (P9 (bX6 h))
theorem cL3 {L:List Nat}{f:Nat->Bool}{u w:Nat}(nd:L.Nodup)(h:∀a b,adj L a b->xor (f a) (f b)=decide (b=u\/b=w))(hu:u∈L)(hw:w∈L)(hne:u≠w) :
  ∀k,k<L.length->(f (gi L k)=f (gi L 0)↔((0<L.idxOf w/\L.idxOf w<=k)↔(0<L.idxOf u/\L.idxOf u<=k)))
 | 0,hk=>by simp;omega
 | k+1,hk=>by
  have ih:=cL3 nd h hu hw hne k (by omega)
  have hs:=h _ _ (cJ1 hk)
  have iu:gi L (k+1)=u↔L.idxOf u=k+1:=⟨λe=>by rw[<- e];exact aU2 nd hk,λe=>by rw[<- e];exact P9 hu⟩
  have iw:gi L (k+1)=w↔L.idxOf w=k+1:=⟨λe=>by rw[<- e];exact aU2 nd hk,λe=>by rw[<- e];exact P9 hw⟩
  have hd:L.idxOf u≠L.idxOf w:=λe=>hne (by rw[<- P9 hu,<- P9 hw,e])
  by_cases h1:L.idxOf u=k+1
  ·have hs:xor (f (gi L k)) (f (gi L (k+1)))=true:=by rw[hs];simp[iu.mpr h1]
   have e:(f (gi L (k+1))=f (gi L 0))↔¬(f (gi L k)=f (gi L 0)):=by
    revert hs;cases f (gi L k) <;> cases f (gi L (k+1)) <;> cases f (gi L 0) <;> simp
   rw[e,ih];omega
  ·by_cases h2:L.idxOf w=k+1
   ·have hs:xor (f (gi L k)) (f (gi L (k+1)))=true:=by rw[hs];simp[iw.mpr h2]
    have e:(f (gi L (k+1))=f (gi L 0))↔¬(f (gi L k)=f (gi L 0)):=by
     revert hs;cases f (gi L k) <;> cases f (gi L (k+1)) <;> cases f (gi L 0) <;> simp
    rw[e,ih];omega
   ·have hs:xor (f (gi L k)) (f (gi L (k+1)))=false:=by
     rw[hs];rw[decide_eq_false_iff_not];intro z;rcases z with z | z
     ·exact h1 (iu.mp z)
     ·exact h2 (iw.mp z)
    have e:f (gi L (k+1))=f (gi L k):=by
     revert hs;cases f (gi L k) <;> cases f (gi L (k+1)) <;> simp
    rw[e,ih];omega
theorem arc {L:List Nat}{f:Nat->Bool}{u w:Nat}(nd:L.Nodup)(h:∀a b,adj L a b->xor (f a) (f b)=decide (b=u\/b=w))(hu:u∈L)(hw:w∈L)(hne:u≠w){q:Nat}(hq:q∈L) :
  (L.idxOf w<L.idxOf u->(f q=f w↔L.idxOf w<=L.idxOf q/\L.idxOf q<L.idxOf u))/\(L.idxOf u<L.idxOf w->(f q=f w↔¬(L.idxOf u<=L.idxOf q/\L.idxOf q<L.idxOf w))):=by
 have a:=cL3 nd h hu hw hne _ (List.idxOf_lt_length_iff.mpr hq)
 have b:=cL3 nd h hu hw hne _ (List.idxOf_lt_length_iff.mpr hw)
 rw[P9 hq]at a;rw[P9 hw]at b;have e:(f q=f w)↔((f q=f (gi L 0))↔(f w=f (gi L 0))):=by
  cases f q <;> cases f w <;> cases f (gi L 0) <;> simp
 rw[e,a,b];constructor <;> intro z <;> omega
structure Cy (r:Nat->List Nat)(g:Nat->Nat)(n:Nat):Prop where
 n2:2<=n
 inj:∀j k,j<=n->k<=n->g j=g k->j=k
 tie:∀k,k<n->g (k+1)∈r (g k)
 tie0:g 0∈r (g n)
def nz (g:Nat->Nat)(n k:Nat):Nat:=if k=n then g 0 else g (k+1)
def pz (g:Nat->Nat)(n k:Nat):Nat:=if k=0 then g n else g (k-1)
noncomputable def zc (g:Nat->Nat)(n x y:Nat):Bool:=decide (∃k,k<=n/\((x=g k/\y=nz g n k)\/(y=g k/\x=nz g n k)))
theorem cH1 {g:Nat->Nat}{n k:Nat}(h:k<=n):∃k',k'<=n/\nz g n k=g k':=by
 unfold nz;by_cases e:k=n
 ·rw[if_pos e];exact⟨0,by omega,rfl⟩
 ·rw[if_neg e];exact⟨k+1,by omega,rfl⟩
theorem cS8 {g:Nat->Nat}{n k:Nat}(h:k<=n):∃k',k'<=n/\pz g n k=g k':=by
 unfold pz;by_cases e:k=0
 ·rw[if_pos e];exact⟨n,by omega,rfl⟩
 ·rw[if_neg e];exact⟨k-1,by omega,rfl⟩
section
variable {r:Nat->List Nat}{g:Nat->Nat}{n:Nat}
theorem Cy.at_ (C:Cy r g n){k y:Nat}(h:k<=n):zc g n (g k) y=true↔(y=pz g n k\/y=nz g n k):=by
 unfold zc;rw[decide_eq_true_iff];constructor
 ·rintro ⟨k',h',⟨e1,e2⟩ | ⟨e1,e2⟩⟩
  ·have:=C.inj _ _ h h' e1
   subst this;exact .inr e2
  ·left
   unfold nz at e2;unfold pz;by_cases z:k'=n
   ·rw[if_pos z]at e2
    have:=C.inj _ _ h (by omega) e2
    rw[if_pos this,e1,z]
   ·rw[if_neg z]at e2
    have:=C.inj _ _ h (by omega) e2
    rw[if_neg (by omega),e1,this];rfl
 ·rintro (e | e)
  ·unfold pz at e;by_cases z:k=0
   ·rw[if_pos z]at e;exact⟨n,by omega,.inr ⟨e,by unfold nz;rw[if_pos rfl,z]⟩⟩
   ·rw[if_neg z]at e;exact⟨k-1,by omega,.inr ⟨e,by unfold nz;rw[if_neg (by omega)];congr 1;omega⟩⟩
  ·exact⟨k,h,.inl ⟨rfl,e⟩⟩
theorem bT7 (x y:Nat):zc g n x y=zc g n y x:=by
 unfold zc
 congr 1
 apply propext
 constructor <;> rintro ⟨k,h,z⟩ <;> exact⟨k,h,z.symm⟩
theorem g5 {x y:Nat}(h:∀k,k<=n->x≠g k):zc g n x y=false:=by
 unfold zc;rw[decide_eq_false_iff_not];rintro ⟨k,hk,⟨e,_⟩ | ⟨_,e⟩⟩
 ·exact h k hk e
 ·obtain ⟨k',h',e'⟩:=cH1 (g:=g) hk;exact h k' h' (e.trans e')
theorem Cy.ne (C:Cy r g n){k:Nat}(h:k<=n):pz g n k≠nz g n k:=by
 have h2:=C.n2
 unfold pz nz;intro e;by_cases a:k=0 <;> by_cases b:k=n
 ·omega
 ·rw[if_pos a,if_neg b]at e
  have:=C.inj _ _ (by omega) (by omega) e;omega
 ·rw[if_neg a,if_pos b]at e
  have:=C.inj _ _ (by omega) (by omega) e;omega
 ·rw[if_neg a,if_neg b]at e
  have:=C.inj _ _ (by omega) (by omega) e;omega
structure Rs (r:Nat->List Nat):Prop where
 nd:∀q,(r q).Nodup
 self:∀q,q∉r q
 tri:∀q a b,adj (r q) a b->adj (r a) b q
 sym:∀p q,q∈r p->p∈r q
 h1:H1 r
theorem Cy.nz_mem (S:Rs r)(C:Cy r g n){k:Nat}(h:k<=n):nz g n k∈r (g k):=by
 unfold nz;by_cases e:k=n
 ·rw[if_pos e,e];exact C.tie0
 ·rw[if_neg e];exact C.tie k (by omega)
theorem Cy.pz_mem (S:Rs r)(C:Cy r g n){k:Nat}(h:k<=n):pz g n k∈r (g k):=by
 unfold pz;by_cases e:k=0
 ·rw[if_pos e,e];exact S.sym _ _ C.tie0
 ·rw[if_neg e]
  have:=C.tie (k-1) (by omega)
  rw[show k-1+1=k by omega]at this
  exact S.sym _ _ this
theorem Cy.cyc (S:Rs r)(C:Cy r g n):Cyc r (zc g n):=by
 refine⟨bT7,λp q h=>?_,λp=>?_⟩
 ·by_cases hp:∃k,k<=n/\p=g k
  ·obtain ⟨k,hk,rfl⟩:=hp;rcases (C.at_ hk).mp h with e | e
   ·rw[e];exact C.pz_mem S hk
   ·rw[e];exact C.nz_mem S hk
  ·rw[g5 λk hk e=>hp ⟨k,hk,e⟩]at h;cases h
 ·by_cases hp:∃k,k<=n/\p=g k
  ·obtain ⟨k,hk,rfl⟩:=hp;rw[bJ2 (C.ne hk) (S.nd _) (C.pz_mem S hk) (C.nz_mem S hk) λa _ h1 h2=>by
    rw[Bool.eq_false_iff];intro z;rcases (C.at_ hk).mp z with e | e;exact h1 e;exact h2 e]
   rw[(C.at_ hk).mpr (.inl rfl),(C.at_ hk).mpr (.inr rfl)];rfl
  ·exact o5 λa _=>g5 λk hk e=>hp ⟨k,hk,e⟩
theorem bV8 {l:List Nat}{y:Nat}(h:y∈l):∃q,adj l y q:=by
 obtain ⟨p,s,e⟩:=Ad5 h;cases s with
 | cons q s=>exact⟨q,adj_iff.mpr (.inl ⟨p,s,e⟩)⟩
 | nil=>
  cases hl:l.head? with
  | none=>rw[List.head?_eq_none_iff]at hl;rw[hl]at h;cases h
  | some q=>exact⟨q,adj_iff.mpr (.inr ⟨p,e,hl⟩)⟩
structure Sd (r:Nat->List Nat)(g:Nat->Nat)(n:Nat)(f:Nat->Nat->Bool)(s:Bool):Prop where
 fa:∀q a b,adj (r q) a b->f q a=f a b
 fb:∀p s q,adj (r p) s q->xor (f p s) (f p q)=zc g n p q
 fs:∀k,k<=n->f (g k) (nz g n k)=s
theorem cI6 {z f:Nat->Nat->Bool}(S:Rs r)(fa:∀q a b,adj (r q) a b->f q a=f a b)(fb:∀p s q,adj (r p) s q->xor (f p s) (f p q)=z p q){x y:Nat}(h:y∈r x)(hz:z y x=false):f x y=f y x:=by
 obtain ⟨q,hq⟩:=bV8 h;have e1:=fa _ _ _ hq;have e2:=fb _ _ _ (S.tri _ _ _ hq);rw[hz]at e2;rw[e1]
 revert e2
 cases f y q <;> cases f y x <;> simp
theorem Cy.arc (S:Rs r)(C:Cy r g n){f:Nat->Nat->Bool}(fb:∀p s q,adj (r p) s q->xor (f p s) (f p q)=zc g n p q){k:Nat}(hk:k<=n){u w L:List Nat}(e1:r (g k)=u++w)(e2:w++u=L){q:Nat}(hq:q∈L) :
  (L.idxOf (nz g n k)<L.idxOf (pz g n k)->(f (g k) q=f (g k) (nz g n k)↔L.idxOf (nz g n k)<=L.idxOf q/\L.idxOf q<L.idxOf (pz g n k)))/\(L.idxOf (pz g n k)<L.idxOf (nz g n k)->(f (g k) q=f (g k) (nz g n k)↔¬(L.idxOf (pz g n k)<=L.idxOf q/\L.idxOf q<L.idxOf (nz g n k)))):=by
 have mem:∀x,x∈r (g k)->x∈L:=λx hx=>by rw[<- e2,Aa0];rw[e1,Aa0]at hx;exact hx.symm
 have nd:L.Nodup:=by
  have:=S.nd (g k)
  rw[e1]at this;rw[<- e2];exact(List.perm_append_comm.nodup_iff).mp this
 refine TT.arc (f:=f (g k)) nd (λa b h=>?_) (mem _ (C.pz_mem S hk)) (mem _ (C.nz_mem S hk)) (C.ne hk) hq
 rw[fb _ _ _ (bH6 e1 (by rw[e2];exact h)),Bool.eq_iff_iff,C.at_ hk]
 simp
theorem Cy.sd (S:Rs r)(C:Cy r g n):∃f s,Sd r g n f s:=by
 obtain ⟨f,fa,fb⟩:=S.h1 _ (C.cyc S);refine⟨f,f (g 0) (nz g n 0),fa,fb,?_⟩;intro k;induction k with
 | zero=>intro _;rfl
 | succ k ih=>
  intro hk;have ih:=ih (by omega)
  rw[<- ih];have e:nz g n k=g (k+1):=by unfold nz;rw[if_neg (by omega)]
  have e':pz g n (k+1)=g k:=by unfold pz;rw[if_neg (by omega)];rfl
  rw[e];obtain ⟨q,hq⟩:=bV8 (C.tie k (by omega))
  rw[fa _ _ _ hq];have h2:=fb _ _ _ (S.tri _ _ _ hq);rw[(C.at_ hk).mpr (.inl e'.symm)]at h2;have ha:=C.arc S fb hk (u:=[]) rfl rfl (q:=g k) (by simpa using S.sym _ _ (C.tie k (by omega)))
  rw[e']at ha;have hn:(r (g (k+1))++[]).idxOf (nz g n (k+1))≠(r (g (k+1))++[]).idxOf (g k):=λz=>C.ne hk (by
   rw[<- P9 (L:=r (g (k+1))++[]) (q:=nz g n (k+1)) (by simpa using C.nz_mem S hk),z,P9 (by simpa[e']using C.pz_mem S hk),e'])
  have h3:f (g (k+1)) (g k)≠f (g (k+1)) (nz g n (k+1)):=by
   intro z;rcases Nat.lt_or_gt_of_ne hn with l | l
   ·have:=(ha.1 l).mp z;omega
   ·have:=(ha.2 l).mp z;omega
  revert h2 h3
  cases f (g (k+1)) q <;> cases f (g (k+1)) (g k) <;> cases f (g (k+1)) (nz g n (k+1)) <;> simp
end
structure Cl3 (T:Nat->Nat->Nat->Prop):Prop where
 rot:∀{i j k},T i j k->T j k i
 lt:∀{i j k},T i j k->i<3/\j<3/\k<3/\i≠j/\j≠k/\i≠k
 ex:∀i,i<3->∃j k,T i j k
 un:∀{i j k j' k'},T i j k->T i j' k'->j=j'/\k=k'
def Rot (l L:List Nat):Prop:=∃u w,l=u++w/\w++u=L
theorem Rot.trans {l L M:List Nat}(h:Rot l L)(h':Rot L M):Rot l M:=by
 obtain ⟨u,w,rfl,rfl⟩:=h;obtain ⟨u',w',e,rfl⟩:=h';rcases List.append_eq_append_iff.mp e with ⟨x,e1,e2⟩ | ⟨x,e1,e2⟩
 ·subst e1 e2;exact⟨x,w'++w,by simp,by simp⟩
 ·subst e1 e2;exact⟨u++u',x,by simp,by simp⟩
theorem Rot.mem {l L:List Nat}(h:Rot l L){x:Nat}:x∈L↔x∈l:=by
 obtain ⟨u,w,rfl,rfl⟩:=h
 simp[or_comm]
theorem Rot.nd {l L:List Nat}(h:Rot l L)(n:l.Nodup):L.Nodup:=by
 obtain ⟨u,w,rfl,rfl⟩:=h;exact(List.perm_append_comm.nodup_iff).mp n
theorem Rot.at_ (L:List Nat)(k:Nat):Rot L (L.drop k++L.take k):=⟨L.take k,L.drop k,by simp,rfl⟩
theorem bM1 {L:List Nat}(nd:L.Nodup){k:Nat}(hk:k<L.length){x:Nat}(hx:x∈L) :
  (k<=L.idxOf x->(L.drop k++L.take k).idxOf x+k=L.idxOf x)/\(L.idxOf x<k->(L.drop k++L.take k).idxOf x+k=L.idxOf x+L.length):=by
 have nd':(L.drop k++L.take k).Nodup:=(Rot.at_ L k).nd nd
 have hl:=List.idxOf_lt_length_iff.mpr hx
 have key:∀j,j<L.length->(L.drop k++L.take k)[j]? = some x->(L.drop k++L.take k).idxOf x=j:=λj hj h=>by
  have e:gi (L.drop k++L.take k) j=x:=by unfold gi;rw[Ac0,h];rfl
  rw[<- e];exact aU2 nd' (by simp;omega)
 have hxx:L[L.idxOf x]? = some x:=by rw[aM1 hl,P9 hx]
 constructor
 ·intro h
  have:=key (L.idxOf x-k) (by omega) (by
   rw[List.getElem?_append_left (by simp;omega),List.getElem?_drop,show k+(L.idxOf x-k)=L.idxOf x by omega];exact hxx)
  omega
 ·intro h
  have:=key (L.length-k+L.idxOf x) (by omega) (by
   rw[List.getElem?_append_right (by simp),List.length_drop,show L.length-k+L.idxOf x-(L.length-k)=L.idxOf x by omega,List.getElem?_take,if_pos h];exact hxx)
  omega
structure Sec (n:Nat)(l:List Nat)(o:Nat->Nat->Nat)(p i j k:Nat)(L:List Nat):Prop where
 rot:Rot l L
 p0:L.idxOf (o i p)=0
 p1:0<L.idxOf (o j p)
 p2:L.idxOf (o j p)<L.idxOf (o k p)
 p3:L.idxOf (o k p)<L.length
 q0:∀x,3<=x->x<n->o i x=p->L.idxOf (o j p)<L.idxOf x/\L.idxOf x<L.idxOf (o k p)
 q1:∀x,3<=x->x<n->o j x=p->L.idxOf (o k p)<L.idxOf x/\L.idxOf x<L.length
 q2:∀x,3<=x->x<n->o k x=p->0<L.idxOf x/\L.idxOf x<L.idxOf (o j p)
 al:∀x∈L,(o i p=x\/o j p=x\/o k p=x)\/(3<=x/\x<n/\(o i x=p\/o j x=p\/o k x=p))
theorem Sec.m0 {n:Nat}{l:List Nat}{o:Nat->Nat->Nat}{p i j k:Nat}{L:List Nat}(S:Sec n l o p i j k L):o i p∈L:=List.idxOf_lt_length_iff.mp (by have:=S.p0;have:=S.p1;have:=S.p2;have:=S.p3;omega)
theorem Sec.m1 {n:Nat}{l:List Nat}{o:Nat->Nat->Nat}{p i j k:Nat}{L:List Nat}(S:Sec n l o p i j k L):o j p∈L:=List.idxOf_lt_length_iff.mp (by have:=S.p0;have:=S.p1;have:=S.p2;have:=S.p3;omega)
theorem Sec.m2 {n:Nat}{l:List Nat}{o:Nat->Nat->Nat}{p i j k:Nat}{L:List Nat}(S:Sec n l o p i j k L):o k p∈L:=List.idxOf_lt_length_iff.mp (by have:=S.p0;have:=S.p1;have:=S.p2;have:=S.p3;omega)
theorem Sec.turn {n:Nat}{l:List Nat}{o:Nat->Nat->Nat}{p i j k:Nat}{L:List Nat}(nd:l.Nodup)(S:Sec n l o p i j k L):∃L',Sec n l o p j k i L':=by
 have p0:=S.p0;have p1:=S.p1;have p2:=S.p2;have p3:=S.p3
 have ndL:=S.rot.nd nd
 have hk:L.idxOf (o j p)<L.length:=by omega
 have len:(L.drop (L.idxOf (o j p))++L.take (L.idxOf (o j p))).length=L.length:=by simp;omega
 have I:=λ{x:Nat} (hx:x∈L)=>bM1 ndL hk hx
 have i0:=I S.m0
 have i1:=I S.m1
 have i2:=I S.m2
 have hm:∀{x:Nat},L.idxOf x<L.length->x∈L:=λh=>List.idxOf_lt_length_iff.mp h
 refine⟨L.drop (L.idxOf (o j p))++L.take (L.idxOf (o j p)),S.rot.trans (Rot.at_ _ _),?_,?_,?_,?_,λx h3 hx e=>?_,λx h3 hx e=>?_,λx h3 hx e=>?_,λx hx=>?_⟩
 ·omega
 ·omega
 ·omega
 ·rw[len];omega
 ·obtain ⟨a,b⟩:=S.q1 x h3 hx e;have ix:=I (hm (by omega:L.idxOf x<L.length))
  omega
 ·obtain ⟨a,b⟩:=S.q2 x h3 hx e;have ix:=I (hm (by omega:L.idxOf x<L.length))
  rw[len];omega
 ·obtain ⟨a,b⟩:=S.q0 x h3 hx e;have ix:=I (hm (by omega:L.idxOf x<L.length))
  omega
 ·have:=S.al x ((Rot.at_ L _).mem.mp hx)
  grind
inductive Sk (o:Nat->Nat)(e n:Nat):Nat->Nat->Prop
 | zero {q:Nat}:q=e->Sk o e n q 0
 | succ {q k:Nat}:3<=q->q<n->Sk o e n (o q) k->Sk o e n q (k+1)
structure Sw (n:Nat)(r:Nat->List Nat)(T:Nat->Nat->Nat->Prop)(o:Nat->Nat->Nat):Prop where
 cl:Cl3 T
 rs:Rs r
 ec:∀j k,j<3->k<3->j≠k->k∈r j
 lt:∀q p,p∈r q->p<n
 sec1:∀p,3<=p->p<n->∃i j k,T i j k/\∃L,Sec n (r p) o p i j k L
 st:∀j p,j<3->3<=p->p<n->∃k,Sk (o j) j n p k
section
variable {n:Nat}{r:Nat->List Nat}{T:Nat->Nat->Nat->Prop}{o:Nat->Nat->Nat}
theorem Sw.sec (W:Sw n r T o){p i j k:Nat}(h3:3<=p)(hp:p<n)(h:T i j k):∃L,Sec n (r p) o p i j k L:=by
 obtain ⟨i',j',k',h',L,S⟩:=W.sec1 p h3 hp;obtain ⟨L1,S1⟩:=S.turn (W.rs.nd _);obtain ⟨L2,S2⟩:=S1.turn (W.rs.nd _);have a:=W.cl.lt h;have b:=W.cl.lt h';rcases (show i=i'\/i=j'\/i=k' by omega) with e | e | e
 ·subst e;obtain ⟨rfl,rfl⟩:=W.cl.un h h';exact⟨L,S⟩
 ·subst e;obtain ⟨rfl,rfl⟩:=W.cl.un h (W.cl.rot h');exact⟨L1,S1⟩
 ·subst e;obtain ⟨rfl,rfl⟩:=W.cl.un h (W.cl.rot (W.cl.rot h'));exact⟨L2,S2⟩
theorem Sw.om (W:Sw n r T o){p i:Nat}(h3:3<=p)(hp:p<n)(h:i<3):o i p∈r p:=by
 obtain ⟨j,k,t⟩:=W.cl.ex i h;obtain ⟨L,S⟩:=W.sec h3 hp t;exact S.rot.mem.mp S.m0
variable {g:Nat->Nat}{N:Nat}{f:Nat->Nat->Bool}{s:Bool}
theorem Sw.corners (W:Sw n r T o)(inn:∀k,k<=N->3<=g k/\g k<n)(D:Sd r g N f s){j y:Nat}(hj:j<3)(hy:y∈r j):f j y=f 0 1:=by
 have off:∀j,j<3->∀k,k<=N->j≠g k:=λj hj k hk e=>by have:=(inn k hk).1;omega
 have cst:∀j,j<3->∀y y',y∈r j->y'∈r j->f j y=f j y':=λj hj y y' h h'=>aM8 D.fb (λq=>g5 (off j hj)) h h'
 by_cases e:j=0
 ·subst e;exact cst 0 (by omega) _ _ hy (W.ec 0 1 (by omega) (by omega) (by omega))
 ·rw[cst j hj _ _ hy (W.ec j 0 hj (by omega) e),cI6 W.rs D.fa D.fb (W.ec j 0 hj (by omega) e) (g5 (off 0 (by omega)))]
  exact cst 0 (by omega) _ _ (W.ec 0 j (by omega) hj (λz=>e z.symm)) (W.ec 0 1 (by omega) (by omega) (by omega))
theorem Sw.princ (W:Sw n r T o)(inn:∀k,k<=N->3<=g k/\g k<n)(C:Cy r g N)(D:Sd r g N f s){j:Nat}(hj:j<3) :
  ∃k,k<=N/\o j (g k)≠pz g N k/\o j (g k)≠nz g N k/\f (g k) (o j (g k))=f 0 1:=by
 have main:∀x k,Sk (o j) j n x k->(∃k,k<=N/\o j (g k)≠pz g N k/\o j (g k)≠nz g N k/\f (g k) (o j (g k))=f 0 1)\/((∀k,k<=N->x≠g k)/\∀y,y∈r x->f x y=f 0 1):=by
  intro x k h;induction h with
  | @zero x e=>
   subst e;exact .inr ⟨λk hk z=>by have:=(inn k hk).1;omega,λy hy=>W.corners inn D hj hy⟩
  | @succ x k h3 hx _ ih=>
   rcases ih with ih | ⟨off,cst⟩
   ·exact .inl ih
   ·have hm:=W.om h3 hx hj
    have he:f x (o j x)=f 0 1:=by rw[cI6 W.rs D.fa D.fb hm (g5 off)];exact cst _ (W.rs.sym _ _ hm)
    by_cases hc:∃k,k<=N/\x=g k
    ·obtain ⟨k',hk',rfl⟩:=hc;refine .inl ⟨k',hk',λz=>?_,λz=>?_,he⟩
     ·obtain ⟨k2,h2,e2⟩:=cS8 (g:=g) hk';exact off k2 h2 (z.trans e2)
     ·obtain ⟨k2,h2,e2⟩:=cH1 (g:=g) hk';exact off k2 h2 (z.trans e2)
    ·have off':∀k,k<=N->x≠g k:=λk hk e=>hc ⟨k,hk,e⟩
     exact .inr ⟨off',λy hy=>by rw[aM8 D.fb (λq=>g5 off') hy hm];exact he⟩
 obtain ⟨k,hk⟩:=W.st j (g 0) hj (inn 0 (by omega)).1 (inn 0 (by omega)).2
 rcases main _ _ hk with h | ⟨off,_⟩
 ·exact h
 ·exact absurd rfl (off 0 (by omega))
def it (o:Nat->Nat):Nat->Nat->Nat
 | 0,q=>q
 | k+1,q=>o (it o k q)
theorem Sk.at_ {o:Nat->Nat}{e n q K:Nat}(h:Sk o e n q K):∀m,m<=K->Sk o e n (it o m q) (K-m)
 | 0,_=>h
 | m+1,hm=>by
  have:=h.at_ m (by omega)
  rw[show K-m=K-(m+1)+1 by omega]at this
  cases this with
  | succ _ _ s=>exact s
theorem Sk.un {o:Nat->Nat}{e n q K:Nat}(he:e<3)(h:Sk o e n q K):∀{K'},Sk o e n q K'->K=K':=by
 induction h with
 | zero e=>intro K' h';cases h' with
  | zero _=>rfl
  | succ h3 _ _=>omega
 | succ h3 _ _ ih=>intro K' h';cases h' with
  | zero _=>omega
  | succ _ _ s=>rw[ih s]
theorem Sk.inn {o:Nat->Nat}{e n q K:Nat}(h:Sk o e n q K)(hk:0<K):3<=q/\q<n:=by
 cases h with
 | zero _=>omega
 | succ a b _=>exact⟨a,b⟩
theorem Sw.path (W:Sw n r T o){i c N:Nat}(hi:i<3)(c3:3<=c)(hc:c<n)(a3:3<=it (o i) N c)(n2:2<=N)(tie:c∈r (it (o i) N c))(hN:∀K,Sk (o i) i n c K->N<=K) :
  (∀k,k<=N->3<=it (o i) k c/\it (o i) k c<n)/\Cy r (λk=>it (o i) k c) N:=by
 obtain ⟨K,hK⟩:=W.st i c hi c3 hc;have h1:=hN K hK;have h2:N<K:=by
  rcases Nat.lt_or_ge N K with h | h
  ·exact h
  ·have:=hK.at_ N h1
   rw[show K-N=0 by omega]at this
   cases this with
   | zero e=>omega
 have inn:∀k,k<=N->3<=it (o i) k c/\it (o i) k c<n:=λk hk=>(hK.at_ k (by omega)).inn (by omega)
 refine⟨inn,n2,λa b ha hb e=>?_,λk hk=>?_,tie⟩
 ·have A:=hK.at_ a (by omega)
  have B:=hK.at_ b (by omega)
  rw[<- e]at B
  have:=A.un hi B
  omega
 ·exact W.om (inn k (by omega)).1 (inn k (by omega)).2 hi
theorem Sw.no1 (W:Sw n r T o){i j k c N:Nat}(t:T i j k)(c3:3<=c)(hc:c<n)(a3:3<=it (o i) N c)(e:it (o i) N c=o k c)(hN:∀K,Sk (o i) i n c K->N<=K):False:=by
 obtain ⟨li,lj,lk,_⟩:=W.cl.lt t;obtain ⟨Lc,Sc⟩:=W.sec c3 hc t;have hm:=W.om c3 hc lk;have n2:2<=N:=by
  rcases (show N=0\/N=1\/2<=N by omega) with h | h | h
  ·subst h;have e:c=o k c:=e;rw[<- e]at hm;exact absurd hm (W.rs.self c)
  ·subst h;have e:o i c=o k c:=e
   have:=Sc.p0;have:=Sc.p1;have:=Sc.p2;rw[e]at *;omega
  ·exact h
 obtain ⟨inn,C⟩:=W.path li c3 hc a3 n2 (by rw[e];exact W.rs.sym _ _ hm) hN
 obtain ⟨f,s,D⟩:=C.sd W.rs;have e1:f 0 1=s:=by
  obtain ⟨m,hm,z1,z2,hf⟩:=W.princ inn C D lj;rw[<- hf];obtain ⟨L,S⟩:=W.sec (inn m hm).1 (inn m hm).2 t;have ⟨u,w,ru,rw_⟩:=S.rot;have A:=C.arc W.rs D.fb hm ru rw_ S.m1;rw[D.fs m hm]at A;have p0:=S.p0;have p1:=S.p1;have p2:=S.p2;have p3:=S.p3;by_cases h0:m=0
  ·subst h0;have en:nz (λk=>it (o i) k c) N 0=o i (it (o i) 0 c):=by unfold nz;rw[if_neg (by omega)];rfl
   have ep:pz (λk=>it (o i) k c) N 0=o k (it (o i) 0 c):=by unfold pz;rw[if_pos rfl];exact e
   rw[en,ep]at A;exact(A.1 (by omega)).mpr (by omega)
  ·have ep:pz (λk=>it (o i) k c) N m=it (o i) (m-1) c:=by unfold pz;rw[if_neg h0]
   have q:=S.q0 (it (o i) (m-1) c) (inn _ (by omega)).1 (inn _ (by omega)).2 (by show it (o i) (m-1+1) c=_;rw[show m-1+1=m by omega])
   by_cases h1:m=N
   ·have en:nz (λk=>it (o i) k c) N m=c:=by unfold nz;rw[if_pos h1];rfl
    have q':=S.q2 c c3 hc (by rw[h1];exact e.symm)
    rw[en,ep]at A;exact(A.1 (by omega)).mpr (by omega)
   ·have en:nz (λk=>it (o i) k c) N m=o i (it (o i) m c):=by unfold nz;rw[if_neg h1];rfl
    rw[en,ep]at A;exact(A.1 (by omega)).mpr (by omega)
 have e2:f 0 1≠s:=by
  obtain ⟨m,hm,z1,z2,hf⟩:=W.princ inn C D lk;rw[<- hf];obtain ⟨L,S⟩:=W.sec (inn m hm).1 (inn m hm).2 t;have ⟨u,w,ru,rw_⟩:=S.rot;have A:=C.arc W.rs D.fb hm ru rw_ S.m2;rw[D.fs m hm]at A;have p0:=S.p0;have p1:=S.p1;have p2:=S.p2;have p3:=S.p3;by_cases h0:m=0
  ·subst h0;have ep:pz (λk=>it (o i) k c) N 0=o k (it (o i) 0 c):=by unfold pz;rw[if_pos rfl];exact e
   exact absurd ep.symm z1
  ·have ep:pz (λk=>it (o i) k c) N m=it (o i) (m-1) c:=by unfold pz;rw[if_neg h0]
   have q:=S.q0 (it (o i) (m-1) c) (inn _ (by omega)).1 (inn _ (by omega)).2 (by show it (o i) (m-1+1) c=_;rw[show m-1+1=m by omega])
   by_cases h1:m=N
   ·have en:nz (λk=>it (o i) k c) N m=c:=by unfold nz;rw[if_pos h1];rfl
    have q':=S.q2 c c3 hc (by rw[h1];exact e.symm)
    rw[en,ep]at A;intro z
    have:=(A.1 (by omega)).mp z
    omega
   ·have en:nz (λk=>it (o i) k c) N m=o i (it (o i) m c):=by unfold nz;rw[if_neg h1];rfl
    rw[en,ep]at A;intro z
    have:=(A.1 (by omega)).mp z
    omega
 exact e2 e1
theorem Sw.no2 (W:Sw n r T o){i j k c N:Nat}(t:T i j k)(c3:3<=c)(hc:c<n)(a3:3<=it (o i) N c)(n2:2<=N)(e:o k (it (o i) N c)=c)(hN:∀K,Sk (o i) i n c K->N<=K):False:=by
 obtain ⟨li,lj,lk,_⟩:=W.cl.lt t;have hlt:it (o i) N c<n:=by
  obtain ⟨K,hK⟩:=W.st i c li c3 hc;have h:=hN K hK;have h3:=hK.at_ N h;rcases Nat.lt_or_ge N K with h' | h'
  ·exact(h3.inn (by omega)).2
  ·rw[show K-N=0 by omega]at h3
   cases h3 with
   | zero z=>omega
 obtain ⟨inn,C⟩:=W.path li c3 hc a3 n2 (by have:=W.om a3 hlt lk;rw[e]at this;exact this) hN
 obtain ⟨f,s,D⟩:=C.sd W.rs;have e1:f 0 1=s:=by
  obtain ⟨m,hm,z1,z2,hf⟩:=W.princ inn C D li;rw[<- hf];obtain ⟨L,S⟩:=W.sec (inn m hm).1 (inn m hm).2 t;have ⟨u,w,ru,rw_⟩:=S.rot;have A:=C.arc W.rs D.fb hm ru rw_ S.m0;rw[D.fs m hm]at A;have p0:=S.p0;have p1:=S.p1;have p2:=S.p2;have p3:=S.p3;by_cases h1:m=N
  ·have h0:m≠0:=by omega
   have ep:pz (λk=>it (o i) k c) N m=it (o i) (m-1) c:=by unfold pz;rw[if_neg h0]
   have q:=S.q0 (it (o i) (m-1) c) (inn _ (by omega)).1 (inn _ (by omega)).2 (by show it (o i) (m-1+1) c=_;rw[show m-1+1=m by omega])
   have en:nz (λk=>it (o i) k c) N m=o k (it (o i) m c):=by unfold nz;rw[if_pos h1,h1];exact e.symm
   rw[en,ep]at A;exact(A.2 (by omega)).mpr (by omega)
  ·have en:nz (λk=>it (o i) k c) N m=o i (it (o i) m c):=by unfold nz;rw[if_neg h1];rfl
   exact absurd en.symm z2
 have e2:f 0 1≠s:=by
  obtain ⟨m,hm,z1,z2,hf⟩:=W.princ inn C D lk;rw[<- hf];obtain ⟨L,S⟩:=W.sec (inn m hm).1 (inn m hm).2 t;have ⟨u,w,ru,rw_⟩:=S.rot;have A:=C.arc W.rs D.fb hm ru rw_ S.m2;rw[D.fs m hm]at A;have p0:=S.p0;have p1:=S.p1;have p2:=S.p2;have p3:=S.p3;by_cases h1:m=N
  ·have en:nz (λk=>it (o i) k c) N m=o k (it (o i) m c):=by unfold nz;rw[if_pos h1,h1];exact e.symm
   exact absurd en.symm z2
  ·have en:nz (λk=>it (o i) k c) N m=o i (it (o i) m c):=by unfold nz;rw[if_neg h1];rfl
   by_cases h0:m=0
   ·subst h0;have ep:pz (λk=>it (o i) k c) N 0=it (o i) N c:=by unfold pz;rw[if_pos rfl]
    have q':=S.q2 (it (o i) N c) a3 hlt e
    rw[en,ep]at A;intro z
    have:=(A.1 (by omega)).mp z
    omega
   ·have ep:pz (λk=>it (o i) k c) N m=it (o i) (m-1) c:=by unfold pz;rw[if_neg h0]
    have q:=S.q0 (it (o i) (m-1) c) (inn _ (by omega)).1 (inn _ (by omega)).2 (by show it (o i) (m-1+1) c=_;rw[show m-1+1=m by omega])
    rw[en,ep]at A;intro z
    have:=(A.1 (by omega)).mp z
    omega
 exact e2 e1
end
theorem aJ3 {l:List Nat}{a b:Nat}(h:adj l.reverse a b):adj l b a:=by
 rcases adj_iff.mp h with ⟨p,s,e⟩ | ⟨p,e,hb⟩
 ·have e:=congrArg List.reverse e
  simp at e
  exact adj_iff.mpr (.inl ⟨s.reverse,p.reverse,by rw[e]⟩)
 ·have e':=congrArg List.reverse e
  simp at e'
  refine adj_iff.mpr (.inr ?_);rw[e]at hb;cases p with
  | nil=>simp at hb;subst hb;exact⟨[],by rw[e'];rfl,by rw[e'];rfl⟩
  | cons x p=>
   simp at hb;subst hb
   exact⟨a::p.reverse,by rw[e'];simp,by rw[e'];rfl⟩
theorem bX3 {l:List Nat}(h:l.Nodup):l.reverse.Nodup:=((List.reverse_perm l).nodup_iff).mpr h
theorem cD0 {h:Nat}{tl:List Nat}(nd:(h::tl).Nodup){x:Nat}(hx:x∈tl):(h::tl.reverse).idxOf x+(h::tl).idxOf x=(h::tl).length/\0<(h::tl).idxOf x/\0<(h::tl.reverse).idxOf x:=by
 have nd2:(h::tl.reverse).Nodup:=by rw[Aa5]at nd ⊢;exact⟨by simpa using nd.1,bX3 nd.2⟩
 have hne:x≠h:=λe=>(Aa5.mp nd).1 (e▸hx)
 have e1:(h::tl).idxOf x=tl.idxOf x+1:=by rw[List.idxOf_cons,beq_false_of_ne (Ne.symm hne)];rfl
 have hl:=List.idxOf_lt_length_iff.mpr hx
 have e2:(h::tl.reverse).idxOf x=tl.length-tl.idxOf x:=by
  have e:gi (h::tl.reverse) (tl.length-tl.idxOf x)=x:=by
   unfold gi;rw[Ac0,show tl.length-tl.idxOf x=(tl.length-1-tl.idxOf x)+1 by omega,List.getElem?_cons_succ,List.getElem?_reverse (by omega),show tl.length-1-(tl.length-1-tl.idxOf x)=tl.idxOf x by omega]
   rw[aM1 hl,P9 hx];rfl
  have:=aU2 nd2 (k:=tl.length-tl.idxOf x) (by simp;omega)
  rw[e]at this;exact this
 rw[e1,e2,List.length_cons];omega
section
variable {n:Nat}{r:Nat->List Nat}{T:Nat->Nat->Nat->Prop}{o:Nat->Nat->Nat}
theorem H1.mir (S:Rs r):H1 (λq=>(r q).reverse):=by
 intro z Z;have pr:∀p,par (z p) (r p)=false:=λp=>by rw[bB6 (List.reverse_perm (r p)).symm];exact Z.ev p
 obtain ⟨f,fa,fb⟩:=S.h1 z ⟨Z.sym,λp q h=>by simpa using Z.sup p q h,pr⟩
 refine⟨λp q=>xor (f p q) (z p q),λq a b h=>?_,λp s q h=>?_⟩
 ·have h:=aJ3 h
  have h2:=S.tri _ _ _ h
  have h3:=S.tri _ _ _ h2
  have a1:=fa _ _ _ h
  have a2:=fa _ _ _ h2
  have b1:=fb _ _ _ h
  have b2:=fb _ _ _ h3
  dsimp only
  rw[<- b1,<- b2,a1,a2];cases f q a <;> cases f a b <;> cases f a q <;> rfl
 ·have h:=aJ3 h
  have b:=fb _ _ _ h
  dsimp only
  rw[<- b];cases f p s <;> cases f p q <;> cases z p q <;> rfl
theorem Rs.mir (S:Rs r):Rs (λq=>(r q).reverse):=by
 refine⟨λq=>bX3 (S.nd q),λq=>by simpa using S.self q,λq a b h=>?_,λp q h=>?_,H1.mir S⟩
 ·have h:=S.tri _ _ _ (S.tri _ _ _ (aJ3 h))
  refine aJ3 ?_;simpa using h
 ·simpa using S.sym p q (by simpa using h)
theorem Sec.mir {l:List Nat}{p i j k:Nat}{L:List Nat}(nd:l.Nodup)(S:Sec n l o p i j k L):∃L',Sec n l.reverse o p i k j L':=by
 have p0:=S.p0;have p1:=S.p1;have p2:=S.p2;have p3:=S.p3
 have ndL:=S.rot.nd nd
 cases L with
 | nil=>simp at p3
 | cons h tl=>
  have eh:o i p=h:=by
   have:=P9 S.m0
   rw[p0]at this;simpa[gi]using this.symm
  have I:∀{x:Nat},0<(h::tl).idxOf x->(h::tl).idxOf x<(h::tl).length->(h::tl.reverse).idxOf x+(h::tl).idxOf x=(h::tl).length/\0<(h::tl.reverse).idxOf x:=λ{x} h1 h2=>by
   have hm:=List.idxOf_lt_length_iff.mp h2
   have hx:x∈tl:=by
    rcases Aa1.mp hm with e | e
    ·rw[e]at h1;simp at h1
    ·exact e
   have:=cD0 ndL hx
   exact⟨this.1,this.2.2⟩
  have len:(h::tl.reverse).length=(h::tl).length:=by simp
  have ij:=I p1 (by omega)
  have ik:=I (by omega) p3
  refine⟨h::tl.reverse,?_,by rw[eh];simp,by omega,by omega,by omega,λx h3 hx e=>?_,λx h3 hx e=>?_,λx h3 hx e=>?_,λx hx=>?_⟩
  ·have h1:Rot l.reverse (tl.reverse++[h]):=by
    obtain ⟨u,w,e1,e2⟩:=S.rot;refine⟨w.reverse,u.reverse,by rw[e1];simp,?_⟩
    rw[<- List.reverse_append,e2];simp
   exact h1.trans ⟨tl.reverse,[h],rfl,rfl⟩
  ·obtain ⟨a,b⟩:=S.q0 x h3 hx e
   have:=I (x:=x) (by omega) (by omega)
   omega
  ·obtain ⟨a,b⟩:=S.q2 x h3 hx e
   have:=I (x:=x) (by omega) (by omega)
   rw[len];omega
  ·obtain ⟨a,b⟩:=S.q1 x h3 hx e
   have:=I (x:=x) (by omega) (by omega)
   omega
  ·have:=S.al x (by simpa using hx)
   grind
theorem Sw.mir (W:Sw n r T o):Sw n (λq=>(r q).reverse) (λi j k=>T i k j) o:=by
 refine⟨⟨λh=>W.cl.rot (W.cl.rot h),λh=>?_,λi h=>?_,λh h'=>(W.cl.un h h').symm⟩,W.rs.mir,λj k a b c=>by simpa using W.ec j k a b c,λq p h=>W.lt q p (by simpa using h),λp h3 hp=>?_,W.st⟩
 ·obtain ⟨a,b,c,d,e,f⟩:=W.cl.lt h;exact⟨a,c,b,f,Ne.symm e,d⟩
 ·obtain ⟨j,k,t⟩:=W.cl.ex i h;exact⟨k,j,t⟩
 ·obtain ⟨i,j,k,t,L,S⟩:=W.sec1 p h3 hp;obtain ⟨L',S'⟩:=S.mir (W.rs.nd p);exact⟨i,k,j,t,L',S'⟩
theorem Sw.two (W:Sw n r T o){a b c i y:Nat}(a3:3<=a)(b3:3<=b)(c3:3<=c)(ha:a<n)(hb:b<n)(hc:c<n)(hi:i<3)(hy:y<3)(hne:y≠i)(e1:o i c=a)(e2:o i a=b)(e3:o y b=c):False:=by
 obtain ⟨j,k,t⟩:=W.cl.ex i hi;have lt:=W.cl.lt t;have ei:it (o i) 2 c=b:=by show o i (o i c)=b;rw[e1,e2]
 have hN:∀K,Sk (o i) i n c K->2<=K:=λK s=>by
  cases s with
  | zero e=>omega
  | succ _ _ s=>
   rw[e1]at s;cases s with
   | zero e=>omega
   | succ _ _ _=>omega
 rcases (show y=j\/y=k by omega) with h | h
 ·exact W.mir.no2 (i:=i) (j:=k) (k:=j) t c3 hc (by rw[ei];exact b3) (by omega) (by rw[ei,<- h];exact e3) hN
 ·exact W.no2 t c3 hc (by rw[ei];exact b3) (by omega) (by rw[ei,<- h];exact e3) hN
theorem Sw.ring3 (W:Sw n r T o){a b c x y w:Nat}(a3:3<=a)(b3:3<=b)(c3:3<=c)(ha:a<n)(hb:b<n)(hc:c<n)(hx:x<3)(hy:y<3)(hw:w<3)(e1:o x a=b)(e2:o y b=c)(e3:o w c=a):T x y w\/T x w y:=by
 by_cases h1:x=y
 ·subst h1;by_cases h2:w=x
  ·subst h2
   exfalso
   obtain ⟨K,hK⟩:=W.st w a hx a3 ha;have i1:it (o w) 1 a=b:=e1;have i2:it (o w) 2 a=c:=by show o w (o w a)=c;rw[e1,e2]
   have i3:it (o w) 3 a=a:=by show o w (o w (o w a))=a;rw[e1,e2,e3]
   rcases (show K=0\/K=1\/K=2\/3<=K by omega) with h | h | h | h
   ·have:=hK.at_ 0 (by omega);rw[h]at this
    cases this with | zero e=>have e:a=w:=e;omega
   ·have:=hK.at_ 1 (by omega);rw[h,i1]at this
    cases this with | zero e=>omega
   ·have:=hK.at_ 2 (by omega);rw[h,i2]at this
    cases this with | zero e=>omega
   ·have:=hK.at_ 3 (by omega);rw[i3]at this
    have:=hK.un hx this;omega
  ·exact(W.two b3 c3 a3 hb hc ha hx hw h2 e1 e2 e3).elim
 ·by_cases h2:y=w
  ·subst h2;exact(W.two c3 a3 b3 hc ha hb hy hx h1 e2 e3 e1).elim
  ·by_cases h3:w=x
   ·subst h3;exact(W.two a3 b3 c3 ha hb hc hw hy (Ne.symm h1) e3 e1 e2).elim
   ·obtain ⟨j,k,t⟩:=W.cl.ex x hx;have lt:=W.cl.lt t;rcases (show(y=j/\w=k)\/(y=k/\w=j) by omega) with ⟨rfl,rfl⟩ | ⟨rfl,rfl⟩
    ·exact .inl t
    ·exact .inr t
end
section
variable {n:Nat}{r:Nat->List Nat}{T:Nat->Nat->Nat->Prop}{o:Nat->Nat->Nat}
def Vd (n:Nat)(r:Nat->List Nat)(o:Nat->Nat->Nat)(f:Nat->Nat->Bool)(s:Bool)(a c i j k:Nat):Prop:=
 ∃L,Sec n (r a) o a i j k L/\0<L.idxOf c/\L.idxOf c<L.idxOf (o j a)/\∀q,q∈r a->(f a q=s↔L.idxOf q<L.idxOf c)
structure Rf (n:Nat)(r:Nat->List Nat)(T:Nat->Nat->Nat->Prop)(o:Nat->Nat->Nat)(f:Nat->Nat->Bool)(s:Bool)(I:Nat->Prop)(i j k a b c:Nat):Prop where
 t:T i j k
 a3:3<=a/\a<n
 b3:3<=b/\b<n
 c3:3<=c/\c<n
 ab:o i a=b
 bc:o j b=c
 ca:o k c=a
 dab:a≠b
 dbc:b≠c
 dca:c≠a
 ed:∀x y,y∈r x->((x≠a/\x≠b/\x≠c)\/(y≠a/\y≠b/\y≠c))->f x y=f y x
 cs:∀x,x≠a->x≠b->x≠c->∀y y',y∈r x->y'∈r x->f x y=f x y'
 va:Vd n r o f s a c i j k
 vb:Vd n r o f s b a j k i
 vc:Vd n r o f s c b k i j
 co:∀e y,e<3->y∈r e->f e y≠s
 hI:∀x,I x↔(3<=x/\x<n/\x≠a/\x≠b/\x≠c/\∀y,y∈r x->f x y=s)
variable {f:Nat->Nat->Bool}{s:Bool}{I:Nat->Prop}{i j k a b c:Nat}
theorem Rf.rot (W:Sw n r T o)(R:Rf n r T o f s I i j k a b c):Rf n r T o f s I j k i b c a:=
 ⟨W.cl.rot R.t,R.b3,R.c3,R.a3,R.bc,R.ca,R.ab,R.dbc,R.dca,R.dab,λx y h z=>R.ed x y h (by grind),λx h1 h2 h3=>R.cs x h3 h1 h2,R.vb,R.vc,R.va,R.co,λx=>by rw[R.hI x];grind⟩
theorem Sw.rf (W:Sw n r T o)(t:T i j k)(a3:3<=a/\a<n)(b3:3<=b/\b<n)(c3:3<=c/\c<n)(ab:o i a=b)(bc:o j b=c)(ca:o k c=a):∃f s I,Rf n r T o f s I i j k a b c:=by
 obtain ⟨li,lj,lk,_⟩:=W.cl.lt t;have mab:=W.om a3.1 a3.2 li;have mbc:=W.om b3.1 b3.2 lj;have mca:=W.om c3.1 c3.2 lk;rw[ab]at mab;rw[bc]at mbc;rw[ca]at mca;have dab:a≠b:=λe=>W.rs.self a (by rw[<- e]at mab;exact mab)
 have dbc:b≠c:=λe=>W.rs.self b (by rw[<- e]at mbc;exact mbc)
 have dca:c≠a:=λe=>W.rs.self c (by rw[<- e]at mca;exact mca)
 let g:Nat->Nat:=λm=>if m=0 then a else if m=1 then b else c
 have g0:g 0=a:=rfl
 have g1:g 1=b:=rfl
 have g2:g 2=c:=rfl
 have le2:∀m,m<=2->m=0\/m=1\/m=2:=λm h=>by omega
 have C:Cy r g 2:=by
  refine⟨by omega,λx y hx hy e=>?_,λm hm=>?_,mca⟩
  ·rcases le2 x hx with rfl | rfl | rfl <;> rcases le2 y hy with rfl | rfl | rfl <;> simp only[g0,g1,g2]at e <;> first | rfl | exact absurd e (by assumption) | exact absurd e.symm (by assumption)
  ·rcases (show m=0\/m=1 by omega) with rfl | rfl
   ·exact mab
   ·exact mbc
 have inn:∀m,m<=2->3<=g m/\g m<n:=λm hm=>by
  rcases le2 m hm with rfl | rfl | rfl
  ·exact a3
  ·exact b3
  ·exact c3
 obtain ⟨f,s,D⟩:=C.sd W.rs;have off:∀x,x≠a->x≠b->x≠c->∀m,m<=2->x≠g m:=λx h1 h2 h3 m hm=>by
  rcases le2 m hm with rfl | rfl | rfl
  ·exact h1
  ·exact h2
  ·exact h3
 have n0:nz g 2 0=b:=rfl
 have n1:nz g 2 1=c:=rfl
 have n2:nz g 2 2=a:=rfl
 have z0:pz g 2 0=c:=rfl
 have z1:pz g 2 1=a:=rfl
 have z2:pz g 2 2=b:=rfl
 have va:Vd n r o f s a c i j k:=by
  obtain ⟨L,S⟩:=W.sec a3.1 a3.2 t;have q:=S.q2 c c3.1 c3.2 ca;have ⟨u,w,ru,rw_⟩:=S.rot;refine⟨L,S,q.1,q.2,λy hy=>?_⟩
  have A:=C.arc W.rs D.fb (show 0<=2 by omega) ru rw_ (S.rot.mem.mpr hy)
  rw[D.fs 0 (by omega),n0,z0,g0,<- ab,S.p0]at A
  rw[A.1 (by omega)];omega
 have vb:Vd n r o f s b a j k i:=by
  obtain ⟨L,S⟩:=W.sec b3.1 b3.2 (W.cl.rot t);have q:=S.q2 a a3.1 a3.2 ab;have ⟨u,w,ru,rw_⟩:=S.rot;refine⟨L,S,q.1,q.2,λy hy=>?_⟩
  have A:=C.arc W.rs D.fb (show 1<=2 by omega) ru rw_ (S.rot.mem.mpr hy)
  rw[D.fs 1 (by omega),n1,z1,g1,<- bc,S.p0]at A
  rw[A.1 (by omega)];omega
 have vc:Vd n r o f s c b k i j:=by
  obtain ⟨L,S⟩:=W.sec c3.1 c3.2 (W.cl.rot (W.cl.rot t));have q:=S.q2 b b3.1 b3.2 bc;have ⟨u,w,ru,rw_⟩:=S.rot;refine⟨L,S,q.1,q.2,λy hy=>?_⟩
  have A:=C.arc W.rs D.fb (show 2<=2 by omega) ru rw_ (S.rot.mem.mpr hy)
  rw[D.fs 2 (by omega),n2,z2,g2,<- ca,S.p0]at A
  rw[A.1 (by omega)];omega
 have os:f 0 1≠s:=by
  obtain ⟨m,hm,h1,h2,h3⟩:=W.princ inn C D li;rw[<- h3];rcases le2 m hm with rfl | rfl | rfl
  ·exact absurd ab h2
  ·obtain ⟨L,S,q1,q2,hq⟩:=vb
   have:=S.p2
   rw[g1,Ne,hq _ (S.rot.mem.mp S.m2)];omega
  ·obtain ⟨L,S,q1,q2,hq⟩:=vc;rw[g2,Ne,hq _ (S.rot.mem.mp S.m1)];omega
 refine⟨f,s,λx=>3<=x/\x<n/\x≠a/\x≠b/\x≠c/\∀y,y∈r x->f x y=s,t,a3,b3,c3,ab,bc,ca,dab,dbc,dca,λx y h z=>?_,λx h1 h2 h3 y y' hy hy'=>aM8 D.fb (λq=>g5 (off x h1 h2 h3)) hy hy',va,vb,vc,λe y he hy=>?_,λx=>Iff.rfl⟩
 ·refine cI6 W.rs D.fa D.fb h ?_;rcases z with ⟨h1,h2,h3⟩ | ⟨h1,h2,h3⟩
  ·rw[bT7];exact g5 (off x h1 h2 h3)
  ·exact g5 (off y h1 h2 h3)
 ·rw[W.corners inn D he hy];exact os
structure Nw (n:Nat)(T:Nat->Nat->Nat->Prop)(o o':Nat->Nat->Nat)(I:Nat->Prop)(i j k a b c:Nat):Prop where
 na:o' i a=c
 na':∀m,m<3->m≠i->o' m a=o m a
 nb:o' j b=a
 nb':∀m,m<3->m≠j->o' m b=o m b
 nc:o' k c=b
 nc':∀m,m<3->m≠k->o' m c=o m c
 ni:∀x,I x->∀m m' m'',T m m' m''->o' m x=o m' x
 no:∀x,3<=x->x<n->x≠a->x≠b->x≠c->¬I x->∀m,m<3->o' m x=o m x
variable {o':Nat->Nat->Nat}
theorem Nw.rot (N:Nw n T o o' I i j k a b c):Nw n T o o' I j k i b c a:=
 ⟨N.nb,N.nb',N.nc,N.nc',N.na,N.na',N.ni,λx h3 hx h1 h2 h4=>N.no x h3 hx h4 h1 h2⟩
theorem Rf.nw (W:Sw n r T o)(R:Rf n r T o f s I i j k a b c):∃o',Nw n T o o' I i j k a b c:=by
 have dab:=R.dab;have dbc:=R.dbc;have dca:=R.dca
 have dba:=dab.symm;have dcb:=dbc.symm;have dac:=dca.symm
 have ia:¬I a:=λh=>((R.hI a).mp h).2.2.1 rfl
 have ib:¬I b:=λh=>((R.hI b).mp h).2.2.2.1 rfl
 have ic:¬I c:=λh=>((R.hI c).mp h).2.2.2.2.1 rfl
 refine⟨λm x=>if x=a then(if m=i then c else o m a) else if x=b then(if m=j then a else o m b) else if x=c then(if m=k then b else o m c) else if I x then(if m=i then o j x else if m=j then o k x else o i x) else o m x,by simp,λm _ h=>by simp[h],by simp[dba],λm _ h=>by simp[h,dba],by simp[dca,dcb],λm _ h=>by simp[h,dca,dcb],λx hx m m' m'' t=>?_,λx h3 hx h1 h2 h4 h5 m hm=>by simp[h1,h2,h4,h5]⟩
 have hx':=(R.hI x).mp hx
 have lt:=W.cl.lt t
 have lt':=W.cl.lt R.t
 simp only[hx'.2.2.1,hx'.2.2.2.1,hx'.2.2.2.2.1,hx,if_true,if_false];rcases (show m=i\/m=j\/m=k by omega) with e | e | e
 ·subst e;rw[if_pos rfl,(W.cl.un t R.t).1]
 ·subst e;rw[if_neg (by omega),if_pos rfl,(W.cl.un t (W.cl.rot R.t)).1]
 ·subst e;rw[if_neg (by omega),if_neg (by omega),(W.cl.un t (W.cl.rot (W.cl.rot R.t))).1]
theorem Rf.out_a (W:Sw n r T o)(R:Rf n r T o f s I i j k a b c){m:Nat}(hm:m<3)(h:m≠i):f a (o m a)≠s:=by
 obtain ⟨L,S,q1,q2,hq⟩:=R.va;have lt:=W.cl.lt R.t
 have:=S.p2
 rcases (show m=j\/m=k by omega) with e | e <;> subst e
 ·rw[Ne,hq _ (S.rot.mem.mp S.m1)];omega
 ·rw[Ne,hq _ (S.rot.mem.mp S.m2)];omega
theorem Rf.inn_f (W:Sw n r T o)(R:Rf n r T o f s I i j k a b c){p y:Nat}(h:I p)(hy:y∈r p):f y p=s:=by
 have hp:=(R.hI p).mp h
 rw[<- R.ed p y hy (.inl ⟨hp.2.2.1,hp.2.2.2.1,hp.2.2.2.2.1⟩)];exact hp.2.2.2.2.2 y hy
theorem Rf.inn_tie (W:Sw n r T o)(R:Rf n r T o f s I i j k a b c){p y:Nat}(h:I p)(hy:y∈r p)(h1:y≠a)(h2:y≠b)(h3:y≠c):I y:=by
 have hf:=R.inn_f W h hy
 have hs:=W.rs.sym _ _ hy
 rw[R.hI y];refine⟨?_,W.lt _ _ hy,h1,h2,h3,λz hz=>by rw[R.cs y h1 h2 h3 z p hz hs];exact hf⟩
 rcases Nat.lt_or_ge y 3 with z | z
 ·exact absurd hf (R.co y p z hs)
 ·exact z
theorem Rf.not_a (W:Sw n r T o)(R:Rf n r T o f s I i j k a b c){p m:Nat}(h:I p)(hm:m<3)(e:o m a=p):False:=by
 by_cases z:m=i
 ·subst z;exact((R.hI p).mp h).2.2.2.1 (e.symm.trans R.ab)
 ·have hmem:=W.om R.a3.1 R.a3.2 hm
  have:=R.out_a W hm z
  rw[e]at this hmem;exact this (R.inn_f W h (W.rs.sym _ _ hmem))
theorem Rf.from_in (W:Sw n r T o)(R:Rf n r T o f s I i j k a b c){p x m:Nat}(h:I p)(h3:3<=x)(hx:x<n)(hm:m<3)(e:o m x=p):I x:=by
 have hmem:=W.om h3 hx hm
 rw[e]at hmem;by_cases ea:x=a
 ·subst ea;exact(R.not_a W h hm e).elim
 ·by_cases eb:x=b
  ·subst eb;exact((R.rot W).not_a W h hm e).elim
  ·by_cases ec:x=c
   ·subst ec;exact(((R.rot W).rot W).not_a W h hm e).elim
   ·exact R.inn_tie W h (W.rs.sym _ _ hmem) ea eb ec
theorem Rf.ring_off (R:Rf n r T o f s I i j k a b c):¬I a/\¬I b/\¬I c:=
 ⟨λh=>((R.hI a).mp h).2.2.1 rfl,λh=>((R.hI b).mp h).2.2.2.1 rfl,λh=>((R.hI c).mp h).2.2.2.2.1 rfl⟩
theorem Rf.from_in' (W:Sw n r T o)(R:Rf n r T o f s I i j k a b c)(N:Nw n T o o' I i j k a b c){p x m m' m'':Nat}(h:I p)(h3:3<=x)(hx:x<n)(t:T m m' m'')(e:o' m x=p):I x/\o m' x=p:=by
 have lt:=W.cl.lt t
 obtain ⟨oa,ob,oc⟩:=R.ring_off;by_cases ix:I x
 ·exact⟨ix,by rw[<- N.ni x ix m m' m'' t];exact e⟩
 ·exfalso
  by_cases ea:x=a
  ·subst ea;by_cases z:m=i
   ·subst z;rw[N.na]at e;rw[<- e]at h;exact oc h
   ·rw[N.na' m lt.1 z]at e;exact ix (R.from_in W h h3 hx lt.1 e)
  ·by_cases eb:x=b
   ·subst eb;by_cases z:m=j
    ·subst z;rw[N.nb]at e;rw[<- e]at h;exact oa h
    ·rw[N.nb' m lt.1 z]at e;exact ix (R.from_in W h h3 hx lt.1 e)
   ·by_cases ec:x=c
    ·subst ec;by_cases z:m=k
     ·subst z;rw[N.nc]at e;rw[<- e]at h;exact ob h
     ·rw[N.nc' m lt.1 z]at e;exact ix (R.from_in W h h3 hx lt.1 e)
    ·rw[N.no x h3 hx ea eb ec ix m lt.1]at e;exact ix (R.from_in W h h3 hx lt.1 e)
theorem Rf.sec_in (W:Sw n r T o)(R:Rf n r T o f s I i j k a b c)(N:Nw n T o o' I i j k a b c){p:Nat}(h:I p):∃L,Sec n (r p) o' p i j k L:=by
 have hp:=(R.hI p).mp h
 have t1:=R.t
 have t2:=W.cl.rot t1
 have t3:=W.cl.rot t2
 have lt:=W.cl.lt t1
 obtain ⟨L,S⟩:=W.sec hp.1 hp.2.1 t2;have ei:=N.ni p h _ _ _ t1;have ej:=N.ni p h _ _ _ t2;have ek:=N.ni p h _ _ _ t3;refine⟨L,S.rot,by rw[ei];exact S.p0,by rw[ej];exact S.p1,by rw[ej,ek];exact S.p2,by rw[ek];exact S.p3,λx h3 hx e=>?_,λx h3 hx e=>?_,λx h3 hx e=>?_,λx hx=>?_⟩
 ·rw[ej,ek];exact S.q0 x h3 hx (R.from_in' W N h h3 hx t1 e).2
 ·rw[ek];exact S.q1 x h3 hx (R.from_in' W N h h3 hx t2 e).2
 ·rw[ej];exact S.q2 x h3 hx (R.from_in' W N h h3 hx t3 e).2
 ·rw[ei,ej,ek];rcases S.al x hx with e | ⟨h3,hx',e⟩
  ·exact .inl e
  ·refine .inr ⟨h3,hx',?_⟩;have ix:I x:=by
    rcases e with e | e | e
    ·exact R.from_in W h h3 hx' lt.2.1 e
    ·exact R.from_in W h h3 hx' lt.2.2.1 e
    ·exact R.from_in W h h3 hx' lt.1 e
   rw[N.ni x ix _ _ _ t1,N.ni x ix _ _ _ t2,N.ni x ix _ _ _ t3];exact e
theorem Rf.sec_out (W:Sw n r T o)(R:Rf n r T o f s I i j k a b c)(N:Nw n T o o' I i j k a b c){p:Nat}(p3:3<=p)(hp:p<n)(ha:p≠a)(hb:p≠b)(hc:p≠c)(h:¬I p):∃L,Sec n (r p) o' p i j k L:=by
 have t1:=R.t
 have lt:=W.cl.lt t1
 obtain ⟨L,S⟩:=W.sec p3 hp t1;have eo:∀m,m<3->o' m p=o m p:=N.no p p3 hp ha hb hc h;have key:∀x,3<=x->x<n->∀m,m<3->(o' m x=p↔o m x=p):=λx h3 hx m hm=>by
  by_cases ix:I x
  ·have no:∀m,m<3->o m x≠p:=λm hm e=>h (R.inn_tie W ix (by rw[<- e];exact W.om h3 hx hm) ha hb hc)
   obtain ⟨m',m'',t⟩:=W.cl.ex m hm;rw[N.ni x ix _ _ _ t];exact iff_of_false (no m' (W.cl.lt t).2.1) (no m hm)
  ·by_cases ea:x=a
   ·subst ea;by_cases z:m=i
    ·subst z;rw[N.na,R.ab];exact iff_of_false (λe=>hc e.symm) (λe=>hb e.symm)
    ·rw[N.na' m hm z]
   ·by_cases eb:x=b
    ·subst eb;by_cases z:m=j
     ·subst z;rw[N.nb,R.bc];exact iff_of_false (λe=>ha e.symm) (λe=>hc e.symm)
     ·rw[N.nb' m hm z]
    ·by_cases ec:x=c
     ·subst ec;by_cases z:m=k
      ·subst z;rw[N.nc,R.ca];exact iff_of_false (λe=>hb e.symm) (λe=>ha e.symm)
      ·rw[N.nc' m hm z]
     ·rw[N.no x h3 hx ea eb ec ix m hm]
 have ei:=eo i lt.1
 have ej:=eo j lt.2.1
 have ek:=eo k lt.2.2.1
 refine⟨L,S.rot,by rw[ei];exact S.p0,by rw[ej];exact S.p1,by rw[ej,ek];exact S.p2,by rw[ek];exact S.p3,λx h3 hx e=>?_,λx h3 hx e=>?_,λx h3 hx e=>?_,λx hx=>?_⟩
 ·rw[ej,ek];exact S.q0 x h3 hx ((key x h3 hx i lt.1).mp e)
 ·rw[ek];exact S.q1 x h3 hx ((key x h3 hx j lt.2.1).mp e)
 ·rw[ej];exact S.q2 x h3 hx ((key x h3 hx k lt.2.2.1).mp e)
 ·rw[ei,ej,ek];rcases S.al x hx with e | ⟨h3,hx',e⟩
  ·exact .inl e
  ·refine .inr ⟨h3,hx',?_⟩;rw[key x h3 hx' i lt.1,key x h3 hx' j lt.2.1,key x h3 hx' k lt.2.2.1];exact e
theorem Rf.sec_a (W:Sw n r T o)(R:Rf n r T o f s I i j k a b c)(N:Nw n T o o' I i j k a b c):∃L,Sec n (r a) o' a i j k L:=by
 have t1:=R.t
 have t2:=W.cl.rot t1
 have t3:=W.cl.rot t2
 have lt:=W.cl.lt t1
 obtain ⟨L,S,c1,c2,hq⟩:=R.va;have p0:=S.p0;have p1:=S.p1;have p2:=S.p2;have p3:=S.p3;have ndL:=S.rot.nd (W.rs.nd a);have hk:L.idxOf c<L.length:=by omega
 have hcL:=List.idxOf_lt_length_iff.mp hk
 have len:(L.drop (L.idxOf c)++L.take (L.idxOf c)).length=L.length:=by simp;omega
 have J:=λ{x:Nat} (hx:x∈L)=>bM1 ndL hk hx
 have hm:∀{x:Nat},L.idxOf x<L.length->x∈L:=λh=>List.idxOf_lt_length_iff.mp h
 have jc:=J hcL
 have j0:=J S.m0
 have j1:=J S.m1
 have j2:=J S.m2
 rw[R.ab]at j0 p0;have ej:=N.na' j lt.2.1 (Ne.symm lt.2.2.2.1);have ek:=N.na' k lt.2.2.1 (Ne.symm lt.2.2.2.2.2);have ei:=N.na;have slf:∀m,m<3->o m a≠a:=λm hm e=>W.rs.self a (by have:=W.om R.a3.1 R.a3.2 hm;rw[e]at this;exact this)
 have ina:∀x,I x->∀m,m<3->o m x=a->L.idxOf x<L.idxOf c:=λx ix m hm e=>by
  have hx:=(R.hI x).mp ix
  have hmem:=W.om hx.1 hx.2.1 hm
  rw[e]at hmem;exact(hq x (W.rs.sym _ _ hmem)).mp (R.inn_f W ix hmem)
 have outa:∀x,3<=x->x<n->x≠a->x≠b->x≠c->¬I x->∀m,m<3->o m x=a->L.idxOf c<L.idxOf x:=λx h3 hx xa xb xc ix m hm e=>by
  have hmem:=W.om h3 hx hm
  rw[e]at hmem;have hs:=W.rs.sym _ _ hmem;have h1:¬f a x=s:=λz=>ix ((R.hI x).mpr ⟨h3,hx,xa,xb,xc,λy hy=>by rw[R.cs x xa xb xc y a hy hmem,R.ed x a hmem (.inl ⟨xa,xb,xc⟩)];exact z⟩)
  rw[hq x hs]at h1;have h2:L.idxOf x≠L.idxOf c:=λz=>xc (by rw[<- P9 (S.rot.mem.mpr hs),z,P9 hcL])
  omega
 refine⟨L.drop (L.idxOf c)++L.take (L.idxOf c),S.rot.trans (Rot.at_ _ _),by rw[ei];omega,by rw[ej];omega,by rw[ej,ek];omega,by rw[ek,len];omega,λx h3 hx e=>?_,λx h3 hx e=>?_,λx h3 hx e=>?_,λx hx=>?_⟩
 ·rw[ej,ek];have e:o i x=a:=by
   by_cases ix:I x
   ·rw[N.ni x ix _ _ _ t1]at e;have h1:=ina x ix j lt.2.1 e;have h2:=S.q1 x h3 hx e;omega
   ·by_cases xa:x=a
    ·subst xa;rw[ei]at e;exact absurd e R.dca
    ·by_cases xb:x=b
     ·subst xb;rw[N.nb' i lt.1 lt.2.2.2.1]at e;exact e
     ·by_cases xc:x=c
      ·subst xc;rw[N.nc' i lt.1 lt.2.2.2.2.2]at e;exact e
      ·rw[N.no x h3 hx xa xb xc ix i lt.1]at e;exact e
  have h:=S.q0 x h3 hx e
  have jx:=J (hm (by omega:L.idxOf x<L.length))
  omega
 ·rw[ek,len];by_cases ix:I x
  ·rw[N.ni x ix _ _ _ t2]at e;have h1:=ina x ix k lt.2.2.1 e;have h2:=S.q2 x h3 hx e;have jx:=J (hm (by omega:L.idxOf x<L.length))
   omega
  ·by_cases xa:x=a
   ·subst xa;rw[ej]at e;exact absurd e (slf j lt.2.1)
   ·by_cases xb:x=b
    ·subst xb;omega
    ·by_cases xc:x=c
     ·subst xc;rw[N.nc' j lt.2.1 lt.2.2.2.2.1]at e
      have:=S.q1 x h3 hx e;omega
     ·rw[N.no x h3 hx xa xb xc ix j lt.2.1]at e;have h:=S.q1 x h3 hx e;have jx:=J (hm h.2);omega
 ·rw[ej];by_cases ix:I x
  ·rw[N.ni x ix _ _ _ t3]at e;have h1:=ina x ix i lt.1 e;have h2:=S.q0 x h3 hx e;omega
  ·by_cases xa:x=a
   ·subst xa;rw[ek]at e;exact absurd e (slf k lt.2.2.1)
   ·by_cases xb:x=b
    ·subst xb;rw[N.nb' k lt.2.2.1 (Ne.symm lt.2.2.2.2.1)]at e
     have:=S.q2 x h3 hx e;omega
    ·by_cases xc:x=c
     ·subst xc;rw[N.nc]at e;exact absurd e.symm R.dab
     ·rw[N.no x h3 hx xa xb xc ix k lt.2.2.1]at e;have h:=S.q2 x h3 hx e;have h':=outa x h3 hx xa xb xc ix k lt.2.2.1 e;have jx:=J (hm (by omega:L.idxOf x<L.length))
      omega
 ·have hx:=(Rot.at_ L _).mem.mp hx
  rw[ei,ej,ek];rcases S.al x hx with (e | e | e) | ⟨h3,hx',e⟩
  ·rw[R.ab]at e;subst e;exact .inr ⟨R.b3.1,R.b3.2,.inr (.inl N.nb)⟩
  ·exact .inl (.inr (.inl e))
  ·exact .inl (.inr (.inr e))
  ·by_cases xc:x=c
   ·exact .inl (.inl xc.symm)
   ·refine .inr ⟨h3,hx',?_⟩;by_cases ix:I x
    ·rw[N.ni x ix _ _ _ t1,N.ni x ix _ _ _ t2,N.ni x ix _ _ _ t3];rcases e with e | e | e
     ·exact .inr (.inr e)
     ·exact .inl e
     ·exact .inr (.inl e)
    ·by_cases xa:x=a
     ·subst xa;rcases e with e | e | e
      ·exact absurd e (slf i lt.1)
      ·exact absurd e (slf j lt.2.1)
      ·exact absurd e (slf k lt.2.2.1)
     ·by_cases xb:x=b
      ·subst xb;exact .inr (.inl N.nb)
      ·rw[N.no x h3 hx' xa xb xc ix i lt.1,N.no x h3 hx' xa xb xc ix j lt.2.1,N.no x h3 hx' xa xb xc ix k lt.2.2.1];exact e
end
inductive Ea (o:Nat->Nat)(e n a:Nat):Nat->Prop
 | zero {q:Nat}:q=e->Ea o e n a q
 | succ {q:Nat}:3<=q->q<n->q≠a->Ea o e n a (o q)->Ea o e n a q
theorem cR8 {o:Nat->Nat}{q:Nat}:∀N,it o N (o q)=it o (N+1) q
 | 0=>rfl
 | N+1=>by show o (it o N (o q))=o (it o (N+1) q);rw[cR8 N]
theorem Sk.ea {o:Nat->Nat}{e n q K:Nat}(a:Nat)(h:Sk o e n q K):Ea o e n a q\/∃N,N<=K/\it o N q=a:=by
 induction h with
 | zero e=>exact .inl (.zero e)
 | @succ q k h3 hq _ ih=>
  by_cases z:q=a
  ·exact .inr ⟨0,by omega,z⟩
  ·rcases ih with ih | ⟨N,hN,e⟩
   ·exact .inl (.succ h3 hq z ih)
   ·exact .inr ⟨N+1,by omega,by rw[<- cR8];exact e⟩
section
variable {n:Nat}{r:Nat->List Nat}{T:Nat->Nat->Nat->Prop}{o o':Nat->Nat->Nat}{f:Nat->Nat->Bool}{s:Bool}{I:Nat->Prop}{i j k a b c:Nat}
theorem Rf.avoid (W:Sw n r T o)(R:Rf n r T o f s I i j k a b c):Ea (o i) i n a c:=by
 have lt:=W.cl.lt R.t
 obtain ⟨K,hK⟩:=W.st i c lt.1 R.c3.1 R.c3.2;rcases hK.ea a with h | ⟨N,hN,e⟩
 ·exact h
 ·exact(W.no1 R.t R.c3.1 R.c3.2 (by rw[e];exact R.a3.1) (by rw[e,R.ca]) (λK' h'=>by rw[<- hK.un lt.1 h'];exact hN)).elim
theorem Rf.next (W:Sw n r T o)(R:Rf n r T o f s I i j k a b c)(N:Nw n T o o' I i j k a b c){x:Nat}(h3:3<=x)(hx:x<n)(h:¬I x)(ha:x≠a):o' i x=o i x/\¬I (o i x):=by
 have lt:=W.cl.lt R.t
 refine⟨?_,λz=>h (R.from_in W z h3 hx lt.1 rfl)⟩
 by_cases xb:x=b
 ·subst xb;exact N.nb' i lt.1 lt.2.2.2.1
 ·by_cases xc:x=c
  ·subst xc;exact N.nc' i lt.1 lt.2.2.2.2.2
  ·exact N.no x h3 hx ha xb xc h i lt.1
theorem Rf.e1 (W:Sw n r T o)(R:Rf n r T o f s I i j k a b c)(N:Nw n T o o' I i j k a b c){x:Nat}(e:Ea (o i) i n a x):¬I x->∃K,Sk (o' i) i n x K:=by
 induction e with
 | zero e=>exact λ_=>⟨0,.zero e⟩
 | @succ x h3 hx ha _ ih=>
  intro h;obtain ⟨e1,e2⟩:=R.next W N h3 hx h ha;obtain ⟨K,hK⟩:=ih e2;exact⟨K+1,.succ h3 hx (by rw[e1];exact hK)⟩
theorem Rf.e2 (W:Sw n r T o)(R:Rf n r T o f s I i j k a b c)(N:Nw n T o o' I i j k a b c){x K:Nat}(e:Sk (o i) i n x K):¬I x->∃K,Sk (o' i) i n x K:=by
 induction e with
 | zero e=>exact λ_=>⟨0,.zero e⟩
 | @succ x _ h3 hx _ ih=>
  intro h;by_cases ha:x=a
  ·subst ha;obtain ⟨K,hK⟩:=R.e1 W N (R.avoid W) R.ring_off.2.2;exact⟨K+1,.succ h3 hx (by rw[N.na];exact hK)⟩
  ·obtain ⟨e1,e2⟩:=R.next W N h3 hx h ha;obtain ⟨K,hK⟩:=ih e2;exact⟨K+1,.succ h3 hx (by rw[e1];exact hK)⟩
theorem Rf.e3 (W:Sw n r T o)(R:Rf n r T o f s I i j k a b c)(N:Nw n T o o' I i j k a b c){x K:Nat}(e:Sk (o j) j n x K):I x->∃K,Sk (o' i) i n x K:=by
 have lt:=W.cl.lt R.t
 induction e with
 | zero e=>exact λh=>absurd ((R.hI _).mp h).1 (by omega)
 | @succ x _ h3 hx _ ih=>
  intro h;have hm:=W.om h3 hx lt.2.1;have en:=N.ni x h _ _ _ R.t;by_cases hi:I (o j x)
  ·obtain ⟨K,hK⟩:=ih hi;exact⟨K+1,.succ h3 hx (by rw[en];exact hK)⟩
  ·have y3:3<=o j x:=by
    have a3:=R.a3;have b3:=R.b3;have c3:=R.c3
    rcases Nat.lt_or_ge (o j x) 3 with z | z
    ·exact absurd (R.inn_tie W h hm (by omega) (by omega) (by omega)) hi
    ·exact z
   obtain ⟨K',hK'⟩:=W.st i (o j x) lt.1 y3 (W.lt _ _ hm);obtain ⟨K,hK⟩:=R.e2 W N hK' hi;exact⟨K+1,.succ h3 hx (by rw[en];exact hK)⟩
theorem Rf.st_i (W:Sw n r T o)(R:Rf n r T o f s I i j k a b c)(N:Nw n T o o' I i j k a b c){x:Nat}(h3:3<=x)(hx:x<n):∃K,Sk (o' i) i n x K:=by
 have lt:=W.cl.lt R.t
 by_cases h:I x
 ·obtain ⟨K,hK⟩:=W.st j x lt.2.1 h3 hx;exact R.e3 W N hK h
 ·obtain ⟨K,hK⟩:=W.st i x lt.1 h3 hx;exact R.e2 W N hK h
theorem Rf.sw (W:Sw n r T o)(R:Rf n r T o f s I i j k a b c)(N:Nw n T o o' I i j k a b c):Sw n r T o':=by
 have lt:=W.cl.lt R.t
 refine⟨W.cl,W.rs,W.ec,W.lt,λp h3 hp=>?_,λm p hm h3 hp=>?_⟩
 ·by_cases ip:I p
  ·exact⟨i,j,k,R.t,R.sec_in W N ip⟩
  ·by_cases ea:p=a
   ·subst ea;exact⟨i,j,k,R.t,R.sec_a W N⟩
   ·by_cases eb:p=b
    ·subst eb;exact⟨j,k,i,W.cl.rot R.t,(R.rot W).sec_a W N.rot⟩
    ·by_cases ec:p=c
     ·subst ec;exact⟨k,i,j,W.cl.rot (W.cl.rot R.t),((R.rot W).rot W).sec_a W N.rot.rot⟩
     ·exact⟨i,j,k,R.t,R.sec_out W N h3 hp ea eb ec ip⟩
 ·rcases (show m=i\/m=j\/m=k by omega) with e | e | e <;> subst e
  ·exact R.st_i W N h3 hp
  ·exact(R.rot W).st_i W N.rot h3 hp
  ·exact((R.rot W).rot W).st_i W N.rot.rot h3 hp
theorem Sw.oinj (W:Sw n r T o){p m m':Nat}(h3:3<=p)(hp:p<n)(hm:m<3)(hm':m'<3)(e:o m p=o m' p):m=m':=by
 obtain ⟨j,k,t⟩:=W.cl.ex m hm;have lt:=W.cl.lt t;obtain ⟨L,S⟩:=W.sec h3 hp t;have p0:=S.p0;have p1:=S.p1;have p2:=S.p2;rcases (show m'=m\/m'=j\/m'=k by omega) with z | z | z
 ·exact z.symm
 ·subst z;rw[e]at p0;omega
 ·subst z;rw[e]at p0;omega
def Tn (n:Nat)(o o':Nat->Nat->Nat)(a b c:Nat):Prop:=∀x y,3<=x->x<n->((∃m,m<3/\o' m x=y)↔(((∃m,m<3/\o m x=y)/\¬(x=a/\y=b)/\¬(x=b/\y=c)/\¬(x=c/\y=a))\/(x=a/\y=c)\/(x=b/\y=a)\/(x=c/\y=b)))
theorem Rf.tn_a (W:Sw n r T o)(R:Rf n r T o f s I i j k a b c)(N:Nw n T o o' I i j k a b c){y:Nat}:(∃m,m<3/\o' m a=y)↔((∃m,m<3/\o m a=y)/\y≠b)\/y=c:=by
 have lt:=W.cl.lt R.t
 constructor
 ·rintro ⟨m,hm,e⟩;by_cases z:m=i
  ·subst z;rw[N.na]at e;exact .inr e.symm
  ·rw[N.na' m hm z]at e;refine .inl ⟨⟨m,hm,e⟩,λeb=>z ?_⟩
   exact W.oinj R.a3.1 R.a3.2 hm lt.1 (by rw[e,eb,R.ab])
 ·rintro (⟨⟨m,hm,e⟩,h⟩ | h)
  ·have z:m≠i:=λz=>h (by subst z;rw[<- e,R.ab])
   exact⟨m,hm,by rw[N.na' m hm z];exact e⟩
  ·exact⟨i,lt.1,by rw[N.na,h]⟩
theorem Rf.tn (W:Sw n r T o)(R:Rf n r T o f s I i j k a b c)(N:Nw n T o o' I i j k a b c):Tn n o o' a b c:=by
 intro x y h3 hx;have lt:=W.cl.lt R.t;have dab:=R.dab;have dbc:=R.dbc;have dca:=R.dca;by_cases xa:x=a
 ·subst xa;rw[R.tn_a W N]
  simp[dab,dab.symm,dca.symm]
 ·by_cases xb:x=b
  ·subst xb;rw[(R.rot W).tn_a W N.rot]
   simp[dab.symm,dbc]
  ·by_cases xc:x=c
   ·subst xc;rw[((R.rot W).rot W).tn_a W N.rot.rot]
    simp[dca,dbc.symm]
   ·simp only[xa,xb,xc,false_and,not_false_eq_true,and_true,or_false];by_cases ix:I x
    ·constructor
     ·rintro ⟨m,hm,e⟩;obtain ⟨m',m'',t⟩:=W.cl.ex m hm;rw[N.ni x ix _ _ _ t]at e;exact⟨m',(W.cl.lt t).2.1,e⟩
     ·rintro ⟨m,hm,e⟩;obtain ⟨m',m'',t⟩:=W.cl.ex m hm;have t2:=W.cl.rot (W.cl.rot t);exact⟨m'',(W.cl.lt t2).1,by rw[N.ni x ix _ _ _ t2];exact e⟩
    ·constructor
     ·rintro ⟨m,hm,e⟩;rw[N.no x h3 hx xa xb xc ix m hm]at e;exact⟨m,hm,e⟩
     ·rintro ⟨m,hm,e⟩;exact⟨m,hm,by rw[N.no x h3 hx xa xb xc ix m hm];exact e⟩
theorem Sw.turn (W:Sw n r T o){x y w:Nat}(a3:3<=a/\a<n)(b3:3<=b/\b<n)(c3:3<=c/\c<n)(hx:x<3)(hy:y<3)(hw:w<3)(ab:o x a=b)(bc:o y b=c)(ca:o w c=a):∃o',Sw n r T o'/\Tn n o o' a b c:=by
 rcases W.ring3 a3.1 b3.1 c3.1 a3.2 b3.2 c3.2 hx hy hw ab bc ca with t | t
 ·obtain ⟨f,s,I,R⟩:=W.rf t a3 b3 c3 ab bc ca;obtain ⟨o',N⟩:=R.nw W;exact⟨o',R.sw W N,R.tn W N⟩
 ·obtain ⟨f,s,I,R⟩:=W.mir.rf (i:=x) (j:=y) (k:=w) t a3 b3 c3 ab bc ca;obtain ⟨o',N⟩:=R.nw W.mir;refine⟨o',?_,R.tn W.mir N⟩
  have:=(R.sw W.mir N).mir
  simpa using this
end
def Tr (i j k:Nat):Prop:=(i=0/\j=1/\k=2)\/(i=1/\j=2/\k=0)\/(i=2/\j=0/\k=1)
theorem cI8:Cl3 Tr:=by
 refine⟨λh=>?_,λh=>?_,λi h=>?_,λh h'=>?_⟩
 ·unfold Tr at *;omega
 ·unfold Tr at *;omega
 ·unfold Tr;rcases (show i=0\/i=1\/i=2 by omega) with rfl | rfl | rfl
  ·exact⟨1,2,by omega⟩
  ·exact⟨2,0,by omega⟩
  ·exact⟨0,1,by omega⟩
 ·unfold Tr at *;omega
theorem Sn.sk {t:List (List Nat)}{c n q k:Nat}(h:Sn t c n q k):Sk (og t c) c n q k:=by
 induction h with
 | zero e=>exact .zero e
 | succ a b _ ih=>exact .succ a b ih
section
variable {m:Nat}{d t:List (List Nat)}
theorem aW5 {l:List Nat}{a b:Nat}(h:adj l a b):a∈l/\b∈l:=by
 rcases adj_iff.mp h with ⟨p,s,e⟩ | ⟨p,e,hb⟩
 ·rw[e];simp
 ·exact⟨by rw[e];simp,List.mem_of_mem_head? hb⟩
theorem Rg.sec {n p:Nat}{A B C:List Nat}(R:Rg d t n p A B C):∃L,Sec n (trn d p) (og t) p 0 1 2 L:=by
 have nd:=R.nd
 have i0:=N8 (p:=[]) (u:=og t 0 p) nd rfl
 have i1:=N8 (p:=og t 0 p::A) (u:=og t 1 p) nd (by simp;rfl)
 have i2:=N8 (p:=og t 0 p::(A++og t 1 p::B)) (u:=og t 2 p) (s:=C) nd (by simp)
 simp only[List.length_cons,Ab7,List.length_nil]at i0 i1 i2;have ln:(og t 0 p::(A++og t 1 p::(B++og t 2 p::C))).length=A.length+B.length+C.length+3:=by simp;omega
 refine⟨_,R.rot,i0,by omega,by omega,by omega,λx h3 hx e=>?_,λx h3 hx e=>?_,λx h3 hx e=>?_,λx hx=>?_⟩
 ·obtain ⟨b1,b2,eb⟩:=Ad5 (R.kb x h3 hx e);have ix:=N8 (p:=og t 0 p::(A++og t 1 p::b1)) (u:=x) (s:=b2++og t 2 p::C) nd (by rw[eb];simp)
  have:B.length=b1.length+b2.length+1:=by rw[eb];simp;omega
  simp only[List.length_cons,Ab7]at ix;omega
 ·obtain ⟨b1,b2,eb⟩:=Ad5 (R.kc x h3 hx e);have ix:=N8 (p:=og t 0 p::(A++og t 1 p::(B++og t 2 p::b1))) (u:=x) (s:=b2) nd (by rw[eb];simp)
  have:C.length=b1.length+b2.length+1:=by rw[eb];simp;omega
  simp only[List.length_cons,Ab7]at ix;omega
 ·obtain ⟨b1,b2,eb⟩:=Ad5 (R.ka x h3 hx e);have ix:=N8 (p:=og t 0 p::b1) (u:=x) (s:=b2++og t 1 p::(B++og t 2 p::C)) nd (by rw[eb];simp)
  have:A.length=b1.length+b2.length+1:=by rw[eb];simp;omega
  simp only[List.length_cons,Ab7]at ix;omega
 ·simp only[Aa1,Aa0]at hx;rcases hx with h | h | h | h | h | h
  ·exact .inl (.inl h.symm)
  ·exact .inr ⟨(R.ha x h).1,(R.ha x h).2.1,.inr (.inr (R.ha x h).2.2)⟩
  ·exact .inl (.inr (.inl h.symm))
  ·exact .inr ⟨(R.hb x h).1,(R.hb x h).2.1,.inl (R.hb x h).2.2⟩
  ·exact .inl (.inr (.inr h.symm))
  ·exact .inr ⟨(R.hc x h).1,(R.hc x h).2.1,.inr (.inl (R.hc x h).2.2)⟩
theorem Gd.sw (W:Gd m d t)(h1:H1 (trn d)):Sw (m+3) (trn d) Tr (og t):=by
 have a2:=W.good.out
 have a1:=W.good.tri _ _ _ a2
 have a0:=W.good.tri _ _ _ a1
 refine⟨cI8,⟨W.good.nd,W.good.self,W.good.tri,λp q h=>W.good.sym h,h1⟩,λj k hj hk hne=>?_,W.good.lt,λp h3 hp=>?_,λj p hj h3 hp=>?_⟩
 ·have b0:=aW5 a0;have b1:=aW5 a1;have b2:=aW5 a2
  rcases (show j=0\/j=1\/j=2 by omega) with rfl | rfl | rfl <;> rcases (show k=0\/k=1\/k=2 by omega) with rfl | rfl | rfl <;> first | exact absurd rfl hne | exact b0.1 | exact b0.2 | exact b1.1 | exact b1.2 | exact b2.1 | exact b2.2
 ·obtain ⟨A,B,C,R⟩:=W.ring h3 hp;exact⟨0,1,2,.inl ⟨rfl,rfl,rfl⟩,R.sec⟩
 ·obtain ⟨k,hk⟩:=W.steps hj h3 hp;exact⟨k,hk.sk⟩
def lst (m:Nat)(o:Nat->Nat->Nat):List (List Nat):=(List.range m).map λv=>[o 0 (v+3),o 1 (v+3),o 2 (v+3)]
theorem aA0 {m:Nat}{o:Nat->Nat->Nat}{c q:Nat}(hc:c<3)(h3:3<=q)(hq:q<m+3):og (lst m o) c q=o c q:=by
 unfold og lst;rw[Aa9,List.getElem?_range (by omega)]
 simp only[Option.map_some,Option.getD_some];rw[show q-3+3=q by omega]
 rcases (show c=0\/c=1\/c=2 by omega) with rfl | rfl | rfl <;> rfl
theorem Sec.rg {n p:Nat}{L:List Nat}{l:List Nat}{d:List (List Nat)}(el:trn d p=l)(nd:l.Nodup)(S:Sec n l (og t) p 0 1 2 L):∃A B C,Rg d t n p A B C:=by
 have ndL:=S.rot.nd nd
 have p0:=S.p0;have p1:=S.p1;have p2:=S.p2;have p3:=S.p3
 obtain ⟨X,Y,e1⟩:=Ad5 S.m1;have i1:=N8 ndL e1;have m2:og t 2 p∈Y:=by
  have hm:=S.m2
  rw[e1]at hm;rcases Aa0.mp hm with h | h
  ·obtain ⟨x1,x2,ex⟩:=Ad5 h
   have:=N8 (p:=x1) (u:=og t 2 p) (s:=x2++og t 1 p::Y) ndL (by rw[e1,ex];simp)
   have:X.length=x1.length+x2.length+1:=by rw[ex];simp;omega
   omega
  ·rcases Aa1.mp h with h | h
   ·rw[h]at p2;omega
   ·exact h
 obtain ⟨B,C,e2⟩:=Ad5 m2;cases X with
 | nil=>simp at i1;omega
 | cons h A=>
  have eh:h=og t 0 p:=by
   have:=P9 S.m0
   rw[p0,e1]at this;simpa[gi]using this
  subst eh;have eL:L=og t 0 p::(A++og t 1 p::(B++og t 2 p::C)):=by rw[e1,e2];simp
  have i2:=N8 (p:=og t 0 p::(A++og t 1 p::B)) (u:=og t 2 p) (s:=C) ndL (by rw[eL];simp)
  have ln:L.length=A.length+B.length+C.length+3:=by rw[eL];simp;omega
  simp only[List.length_cons,Ab7]at i1 i2;have zA:∀x,x∈A->0<L.idxOf x/\L.idxOf x<A.length+1:=λx hx=>by
   obtain ⟨b1,b2,eb⟩:=Ad5 hx;have ix:=N8 (p:=og t 0 p::b1) (u:=x) (s:=b2++og t 1 p::(B++og t 2 p::C)) ndL (by rw[eL,eb];simp)
   have:A.length=b1.length+b2.length+1:=by rw[eb];simp;omega
   simp only[List.length_cons]at ix;omega
  have zB:∀x,x∈B->A.length+1<L.idxOf x/\L.idxOf x<A.length+B.length+2:=λx hx=>by
   obtain ⟨b1,b2,eb⟩:=Ad5 hx;have ix:=N8 (p:=og t 0 p::(A++og t 1 p::b1)) (u:=x) (s:=b2++og t 2 p::C) ndL (by rw[eL,eb];simp)
   have:B.length=b1.length+b2.length+1:=by rw[eb];simp;omega
   simp only[List.length_cons,Ab7]at ix;omega
  have zC:∀x,x∈C->A.length+B.length+2<L.idxOf x:=λx hx=>by
   obtain ⟨b1,b2,eb⟩:=Ad5 hx;have ix:=N8 (p:=og t 0 p::(A++og t 1 p::(B++og t 2 p::b1))) (u:=x) (s:=b2) ndL (by rw[eL,eb];simp)
   simp only[List.length_cons,Ab7]at ix;omega
  have mem:∀x,x∈L->x=og t 0 p\/x∈A\/x=og t 1 p\/x∈B\/x=og t 2 p\/x∈C:=λx hx=>by
   rw[eL]at hx;simpa using hx
  have hm:∀{x:Nat},L.idxOf x<L.length->x∈L:=λh=>List.idxOf_lt_length_iff.mp h
  refine⟨A,B,C,⟨?_,by rw[<- eL];exact ndL,λx hx=>?_,λx hx=>?_,λx hx=>?_,λx h3 hx e=>?_,λx h3 hx e=>?_,λx h3 hx e=>?_⟩⟩
  ·rw[el,<- eL];exact S.rot
  ·have z:=zA x hx
   rcases S.al x (by rw[eL];simp[hx]) with (e | e | e) | ⟨h3,hx',e | e | e⟩
   ·rw[e]at p0;omega
   ·rw[e]at i1;omega
   ·rw[e]at i2;omega
   ·have:=S.q0 x h3 hx' e;omega
   ·have:=S.q1 x h3 hx' e;omega
   ·exact⟨h3,hx',e⟩
  ·have z:=zB x hx
   rcases S.al x (by rw[eL];simp[hx]) with (e | e | e) | ⟨h3,hx',e | e | e⟩
   ·rw[e]at p0;omega
   ·rw[e]at i1;omega
   ·rw[e]at i2;omega
   ·exact⟨h3,hx',e⟩
   ·have:=S.q1 x h3 hx' e;omega
   ·have:=S.q2 x h3 hx' e;omega
  ·have z:=zC x hx
   rcases S.al x (by rw[eL];simp[hx]) with (e | e | e) | ⟨h3,hx',e | e | e⟩
   ·rw[e]at p0;omega
   ·rw[e]at i1;omega
   ·rw[e]at i2;omega
   ·have:=S.q0 x h3 hx' e;omega
   ·exact⟨h3,hx',e⟩
   ·have:=S.q2 x h3 hx' e;omega
  ·have q:=S.q2 x h3 hx e
   rcases mem x (hm (by omega:L.idxOf x<L.length)) with h | h | h | h | h | h
   ·rw[h]at q;omega
   ·exact h
   ·rw[h]at q;omega
   ·have:=zB x h;omega
   ·rw[h]at q;omega
   ·have:=zC x h;omega
  ·have q:=S.q0 x h3 hx e
   rcases mem x (hm (by omega:L.idxOf x<L.length)) with h | h | h | h | h | h
   ·rw[h]at q;omega
   ·have:=zA x h;omega
   ·rw[h]at q;omega
   ·exact h
   ·rw[h]at q;omega
   ·have:=zC x h;omega
  ·have q:=S.q1 x h3 hx e
   rcases mem x (hm q.2) with h | h | h | h | h | h
   ·rw[h]at q;omega
   ·have:=zA x h;omega
   ·rw[h]at q;omega
   ·have:=zB x h;omega
   ·rw[h]at q;omega
   ·exact h
theorem Sec.congr {n p i j k:Nat}{l L:List Nat}{o o':Nat->Nat->Nat}(h3:3<=p)(hp:p<n)(hi:i<3)(hj:j<3)(hk:k<3)(h:∀c q,c<3->3<=q->q<n->o' c q=o c q)(S:Sec n l o p i j k L):Sec n l o' p i j k L:=by
 have ei:=h i p hi h3 hp
 have ej:=h j p hj h3 hp
 have ek:=h k p hk h3 hp
 refine⟨S.rot,by rw[ei];exact S.p0,by rw[ej];exact S.p1,by rw[ej,ek];exact S.p2,by rw[ek];exact S.p3,λx x3 hx e=>?_,λx x3 hx e=>?_,λx x3 hx e=>?_,λx hx=>?_⟩
 ·rw[ej,ek];exact S.q0 x x3 hx (by rw[<- h i x hi x3 hx];exact e)
 ·rw[ek];exact S.q1 x x3 hx (by rw[<- h j x hj x3 hx];exact e)
 ·rw[ej];exact S.q2 x x3 hx (by rw[<- h k x hk x3 hx];exact e)
 ·rw[ei,ej,ek];rcases S.al x hx with e | ⟨x3,hx',e⟩
  ·exact .inl e
  ·refine .inr ⟨x3,hx',?_⟩;rw[h i x hi x3 hx',h j x hj x3 hx',h k x hk x3 hx'];exact e
theorem Sw.gd {o:Nat->Nat->Nat}(dl:d.length=m+3)(G:Good (m+3) (trn d))(W:Sw (m+3) (trn d) Tr o):Gd m d (lst m o):=by
 refine⟨dl,by simp[lst],λv hv=>?_,λ{p} h3 hp=>?_,λ{c q} hc h3 hq=>?_,G⟩
 ·rw[aA0 (by omega) (by omega) (by omega),aA0 (by omega) (by omega) (by omega),aA0 (by omega) (by omega) (by omega)]
  unfold lst;rw[Aa9,List.getElem?_range hv];rfl
 ·obtain ⟨L,S⟩:=W.sec h3 hp (.inl ⟨rfl,rfl,rfl⟩:Tr 0 1 2);exact Sec.rg rfl (G.nd p) (S.congr h3 hp (by omega) (by omega) (by omega) λc q hc q3 hq=>aA0 hc q3 hq)
 ·obtain ⟨k,hk⟩:=W.st c q hc h3 hq;refine⟨k,?_⟩;induction hk with
  | zero e=>exact .zero e
  | @succ q k q3 hq' _ ih=>
   refine .succ q3 hq' ?_;rw[aA0 hc q3 hq'];rename_i hs;rcases Nat.lt_or_ge (o c q) 3 with z | z
   ·cases hs with
    | zero e=>exact .zero e
    | succ a _ _=>omega
   ·exact ih z (by have:=hs;cases hs with | zero e=>omega | succ _ b _=>exact b)
theorem Gd.turn (W:Gd m d t)(h1:H1 (trn d)){a b c x y w:Nat}(a3:3<=a/\a<m+3)(b3:3<=b/\b<m+3)(c3:3<=c/\c<m+3)(hx:x<3)(hy:y<3)(hw:w<3)(ab:og t x a=b)(bc:og t y b=c)(ca:og t w c=a):∃t',Gd m d t'/\Tn (m+3) (og t) (og t') a b c:=by
 obtain ⟨o',S,N⟩:=(W.sw h1).turn a3 b3 c3 hx hy hw ab bc ca;refine⟨lst m o',S.gd W.dl W.good,λx y h3 hx=>?_⟩
 rw[<- N x y h3 hx];constructor <;> rintro ⟨m',hm,e⟩ <;> refine⟨m',hm,?_⟩
 ·rw[aA0 hm h3 hx]at e;exact e
 ·rw[aA0 hm h3 hx];exact e
end
end TT
namespace K18
open PySem L2 LV PyProof.Rows
theorem sc__law_arrows:D7 ["_law_outs", "_law_pairs", "_law_v", "_law_place"] ["_law_outs"] (A9 N0):=⟨rfl,rfl,rfl,by decide +kernel,rfl,by decide +kernel,by decide +kernel⟩
def cL5 (ds:List PyData)(d:PyData):Prop:=∃(m:Nat) (dr tr:List (List Nat)),Dw m dr tr/\ds=[.tuple (tr.map tN)]/\d=.tuple ((sp (arr tr)).map pD)
theorem cH2 {ps:List (Int×Int)}{i:Nat}{d:PyData}(h:(ps.map pD)[i]? = some d):d=pD (gp ps i)/\i<ps.length:=by
 rw[Aa9]at h;obtain ⟨x,hx,rfl⟩:=Option.map_eq_some_iff.mp h;have hi:=(Ab0.mp hx).1;rw[bK5 hi]at hx;exact⟨by rw[Ab4 hx],hi⟩
theorem cF5 {ps:List (Int×Int)}{j:Nat}(h:j<ps.length):ps.take (j+1)=ps.take j++[gp ps j]:=by rw[List.take_succ,bK5 h];rfl
theorem sc__law_rings:D7 ["_law_arrows_here", "_law_found", "_law_a", "_law_b", "_law_c", "_law_d"] ["_law_arrows_here"] (A9 O9):=⟨rfl,rfl,rfl,by decide +kernel,rfl,by decide +kernel,by decide +kernel⟩
theorem sc__law_turned:D7 ["_law_arrows_here", "_law_ring", "_law_a", "_law_b", "_law_c", "_law_left"] ["_law_arrows_here", "_law_ring"] (A9 M9):=⟨rfl,rfl,rfl,by decide +kernel,rfl,by decide +kernel,by decide +kernel⟩
def rF (ps:List (Int×Int))(x y:Int×Int):Option (List Int):=if y.1=x.2/\x.1<x.2/\x.1<y.2/\(y.2,x.1)∈ps then some [x.1,x.2,y.2] else none
def rl1 (ps:List (Int×Int))(x:Int×Int):List (List Int):=ps.filterMap (rF ps x)
def rgL (ps:List (Int×Int)):List (List Int):=ga (λi=>rl1 ps (gp ps i)) ps.length
theorem bT2 (ps:List (Int×Int))(hl:ps.length<=21):∀i,(ga (λi=>rl1 ps (gp ps i)) i).length<=21*i
 | 0=>by simp[ga]
 | i+1=>by
  rw[M5,Ab7]
  have:=bT2 ps hl i
  have:(rl1 ps (gp ps i)).length<=ps.length:=List.length_filterMap_le _ _
  omega
theorem cB1 {ps:List (Int×Int)}{v:List Int}(h:v∈rgL ps):∃a b c,v=[a,b,c]/\(a,b)∈ps/\(b,c)∈ps/\(c,a)∈ps:=by
 obtain ⟨i,hi,hv⟩:=ga_mem.mp h;obtain ⟨y,hy,e⟩:=List.mem_filterMap.mp hv;have hx:gp ps i∈ps:=List.mem_of_getElem? (bK5 hi);unfold rF at e;split at e
 ·rename_i hc;refine⟨_,_,_,(Ab4 e).symm,hx,?_,hc.2.2.2⟩;rw[<- hc.1];exact hy
 ·cases e
def cS9 (ds es:List PyData):Prop:=∃ps:List (Int×Int),ps.length<=21/\ds=[.tuple (ps.map pD)]/\es=(rgL ps).map tI
def tw (ps:List (Int×Int))(x y z:Int):List (Int×Int):=ps.filter (λp=>decide (p∉[(x,y),(y,z),(z,x)]))++[(y,x),(z,y),(x,z)]
def bZ1 (ds:List PyData)(d:PyData):Prop:=∃(ps:List (Int×Int)) (x y z:Int),ps.length<=60/\ds=[.tuple (ps.map pD),tI [x,y,z]]/\d=.tuple ((sp (tw ps x y z)).map pD)
def fNi (G:List (Int×Int)):PyData->Option PyData
 | .tuple [.int p,.int q]=>if(p,q)∈G then none else some (tI [p,q])
 | _=>none
theorem cC8 (G ps:List (Int×Int)):(ps.map pD).filterMap (fNi G)=(ps.filter λp=>decide (p∉G)).map pD:=by
 rw[List.filterMap_map,<- List.filterMap_eq_map,List.filterMap_filter];refine U0 λx _=>?_
 show(if(x.1,x.2)∈G then none else some (tI [x.1,x.2]))=_
 by_cases h:x∈G
 ·have:(x.1,x.2)∈G:=h
  rw[if_pos this];simp[h]
 ·have:¬(x.1,x.2)∈G:=h
  rw[if_neg this];simp[h];rfl
section
variable {P:Program}{w:World}{K:PySem.W.Frag}{mg:Str->Option Value}{base:Heap}{a:Ad}
theorem cJ0 (T:Tx K mg a):G3 P w K mg base CX0 1 a.X5 a.X4 ["_law_outs"] (spV K cL5):=by
 refine T.w6.ok sc__law_arrows (X3 λds d ⟨_,_,_,_,e,_⟩=>by rw[e];rfl) (λcdv A outer s H vs Q E hr h=>?_)
 obtain ⟨ds,S,d,hS,r,⟨m,dr,tr,dw,rfl,rfl⟩,q⟩:=h;refine⟨_,(A5 (B6 (i:=1) sc__law_arrows.nd rfl (Or.inl rfl) (C6 A3))
   (A5 (L7 PassesOwn.never rfl (G4 rfl T.G6 (A0 (C3 (aN8 K) (by rfl) T.P1 PySem.boot_len (A0 (pv 0) A3)) A3)) (B4 (i:=2) sc__law_arrows.nd rfl (Or.inl rfl)) (A8 (L7 PassesOwn.never rfl (X7 (B7 (ixK K) (pv 0) (pv 2) (λ_ _=>rfl))) (B4 (i:=3) sc__law_arrows.nd rfl (Or.inl rfl)) (A8 (H9 (N4 Ab1 PySem.F.slot_list_append PySem.F.type_list_append D8 (pv 1) (A0 (G0 (A0 (B2 D1 A4 (pv 2)) (A0 (pv 3) A3))) A3)))))))
   (A8 (C9 (M0 (bW1 K) (by rfl) T.M6 boot_tuple (A0 (C3 (j8 K) (by rfl) T.R8 boot_sorted (A0 (pv 1) A3)) A3)))))),M1 hS r ?_ q⟩
 have tl:=dw.tl
 have m7:=dw.m7
 have hln:((tr.map tN).length:Int)=(m:Int):=by rw[Aa3,tl]
 refine B1 (K2 (J4 A7) ?_ (show 1<4 by decide))
 refine B1 (P4 (P7 (A1 (S8 (ds:=tr.map tN) (A1 (A2 rfl) A7)) A7) (by rw[hln];omega) (by rw[hln];omega)) (λi ρ=>∃x2 x3,(x2.nb=true/\x3.nb=true)/\ρ=[.val (.tuple (tr.map tN)),.own ((ga (ga1 tr) i).map pD),x2,x3]) ⟨.no,.no,⟨rfl,rfl⟩,rfl⟩ ?_ ?_)
 ·rintro i d _ hd ⟨x2,x3,⟨b2,b3⟩,rfl⟩;obtain ⟨rfl,hi⟩:=Q1 hd;rw[hln]at hi;have hi:i<m:=by omega
  obtain ⟨row,h1,h2⟩:=dw.t3 hi;have hal:=bK3 dw (i:=i) (by omega)
  have eg:tr.getD i []=row:=by rw[Ac0,h1];rfl
  refine⟨_,B9,?_⟩;refine P4 (v9 (ds:=nI row) (G5 (d':=tN row) (A2 rfl) (A2 rfl) rfl (K0 i rfl (by rw[Aa9,h1];rfl)))) (λj ρ=>∃x3,x3.nb=true/\ρ=[.val (.tuple (tr.map tN)),.own ((ga (ga1 tr) i++(ga1 tr i).take j).map pD),.val (.int (i:Int)),x3]) ⟨x3,b3,by simp only[List.take_zero,List.filter_nil,List.map_nil,List.append_nil];rfl⟩ ?_ ?_
  ·rintro j d _ hd ⟨x3,b3,rfl⟩;unfold nI at hd;rw[Aa9]at hd;obtain ⟨x,hx,rfl⟩:=Option.map_eq_some_iff.mp hd;have hj:j<row.length:=(Ab0.mp hx).1;have et:(ga1 tr i).take (j+1)=(ga1 tr i).take j++[(3+(i:Int),(x:Int))]:=by
    rw[List.take_succ];unfold ga1;rw[Aa9,eg,hx];rfl
   have em:(ga (ga1 tr) i++(ga1 tr i).take (j+1)).map pD=(ga (ga1 tr) i++(ga1 tr i).take j).map pD++[pD (3+(i:Int),(x:Int))]:=by
    rw[et,<- Ad7,Ad2];rfl
   refine⟨_,B9,?_⟩;show W K _ [.val (.tuple (tr.map tN)),.own ((ga (ga1 tr) i++(ga1 tr i).take j).map pD),.val (.int (i:Int)),.val (.int (x:Int))] _;refine R5 rfl (N5 (A1 (K5 A6 (A2 rfl)) (A1 (A2 rfl) A7))) ?_ ⟨.val (.int (x:Int)),rfl,?_⟩
   ·rw[Aa3,Ab7,Ad1];unfold PySem.sizeLine;omega
   ·rw[em];rfl
  ·rintro _ ⟨x3,b3,rfl⟩;refine⟨.val (.int (i:Int)),x3,⟨rfl,b3⟩,?_⟩;rw[M5]
   have:(ga1 tr i).take (nI row).length=ga1 tr i:=List.take_of_length_le (by unfold ga1;rw[Aa3,eg,D3];exact Aa7 _)
   rw[this]
 rintro _ ⟨x2,x3,⟨b2,b3⟩,rfl⟩;have e:(T3 0 ((tr.map tN).length:Int).toNat).length=tr.length:=by rw[O0,hln,tl];omega
 rw[e];have hal:=bK3 dw (i:=tr.length) (Aa7 _);exact L9 (U9 (A1 (EF.e' (aK5 (ps:=arr tr) (A1 (G9 rfl) A7) (by unfold arr;omega))) A7) (aB8 _)) rfl
theorem cR0 (T:Tx K mg a):G3 P w K mg base CX0 1 a.Z4 a.i9 ["_law_arrows_here"] (spL K cS9):=by
 refine T.aD7.ok sc__law_rings (cP9 λds d ⟨_,_,e,_⟩=>by rw[e];rfl) (λcdv A outer s H vs Q E hr h=>?_)
 obtain ⟨ds,S,es,hS,r,⟨ps,hl,rfl,rfl⟩,q⟩:=h;refine⟨_,(A5 (B6 (i:=1) sc__law_rings.nd rfl (Or.inl rfl) (C6 A3))
   (A5 (L7 PassesOwn.never rfl (X7 (pv 0)) (p8 (n:=2) rfl (E8 (B4 (i:=2) sc__law_rings.nd rfl (Or.inl rfl)) (E8 (B4 (i:=3) sc__law_rings.nd rfl (Or.inl rfl)) W9))) (A8 (L7 PassesOwn.never rfl (X7 (pv 0)) (p8 (n:=2) rfl (E8 (B4 (i:=4) sc__law_rings.nd rfl (Or.inl rfl)) (E8 (B4 (i:=5) sc__law_rings.nd rfl (Or.inl rfl)) W9))) (A8 (R7 (PW.pt (y6 (C1 aS2 (pv 4) (pv 3) (E2 _)) (y6 (C1 aQ8 (pv 2) (pv 3) (E2 _)) (y6 (C1 aQ8 (pv 2) (pv 5) (E2 _)) (aC9 (C1 (aN7 K hr) (G0 (A0 (pv 5) (A0 (pv 2) A3))) (pv 0) rfl)))))) (A8 (H9 (N4 Ab1 PySem.F.slot_list_append PySem.F.type_list_append D8 (pv 1) (A0 (G0 (A0 (pv 2) (A0 (pv 3) (A0 (pv 5) A3)))) A3)))) K4)))))
   (A8 (C9 (pv 1))))),bW3 hS r ?_ q⟩
 refine B1 (K2 (J4 A7) ?_ (show 1<6 by decide))
 refine B1 (P4 (v9 (ds:=ps.map pD) (A2 rfl)) (λi ρ=>∃x2 x3 x4 x5,(x2.nb=true/\x3.nb=true/\x4.nb=true/\x5.nb=true)/\ρ=[.val (.tuple (ps.map pD)),.own ((ga (λi=>rl1 ps (gp ps i)) i).map tI),x2,x3,x4,x5]) ⟨.no,.no,.no,.no,⟨rfl,rfl,rfl,rfl⟩,rfl⟩ ?_ ?_)
 ·rintro i d _ hd ⟨x2,x3,x4,x5,⟨b2,b3,b4,b5⟩,rfl⟩;obtain ⟨rfl,hi⟩:=cH2 hd;have hal:=bT2 ps hl i;generalize hx:gp ps i=x;refine⟨_,aG9 (K3 B9 (K3 B9 r9)),?_⟩;refine P4 (v9 (ds:=ps.map pD) (A2 rfl)) (λj ρ=>∃x4 x5,(x4.nb=true/\x5.nb=true)/\ρ=[.val (.tuple (ps.map pD)),.own ((ga (λi=>rl1 ps (gp ps i)) i++(ps.take j).filterMap (rF ps x)).map tI),.val (.int x.1),.val (.int x.2),x4,x5]) ⟨x4,x5,⟨b4,b5⟩,by simp only[List.take_zero,List.filterMap_nil,List.append_nil];rfl⟩ ?_ ?_
  ·rintro j d _ hd ⟨x4,x5,⟨b4,b5⟩,rfl⟩;obtain ⟨rfl,hj⟩:=cH2 hd;have et:=cF5 hj;generalize hy:gp ps j=y at et ⊢;have hil:((ps.take j).filterMap (rF ps x)).length<=21:=Nat.le_trans (List.length_filterMap_le _ _) (by rw[Ad1];omega)
   refine⟨_,aG9 (K3 B9 (K3 B9 r9)),?_⟩;show W K _ [.val (.tuple (ps.map pD)),.own ((ga (λi=>rl1 ps (gp ps i)) i++(ps.take j).filterMap (rF ps x)).map tI),.val (.int x.1),.val (.int x.2),.val (.int y.1),.val (.int y.2)] _
   generalize hρ:[Sl.val (.tuple (ps.map pD)),.own ((ga (λi=>rl1 ps (gp ps i)) i++(ps.take j).filterMap (rF ps x)).map tI),.val (.int x.1),.val (.int x.2),.val (.int y.1),.val (.int y.2)]=ρ'
   have e:=bA8 (K:=K) (m:=false) (ρ := ρ') (d:=pD (y.2,x.1)) (N5 (A1 (A2 (i:=5) (by rw[<- hρ];rfl)) (A1 (A2 (i:=2) (by rw[<- hρ];rfl)) A7))) (A2 (i:=0) (by rw[<- hρ];rfl)) (ds:=ps.map pD) rfl (aA4 _).fit (Z8 ps)
   rw[aL5]at e;have tst:=aM9 (K:=K) (ρ := ρ') (C7 (aR9 (i:=y.1) (j:=x.2) (A2 (i:=4) (by rw[<- hρ];rfl)) (A2 (i:=3) (by rw[<- hρ];rfl)))) λ_=>aM9 (C7 (aB4 (g:=λi j=>decide (i<j)) (i:=x.1) (j:=x.2) (A2 (i:=2) (by rw[<- hρ];rfl)) (A2 (i:=3) (by rw[<- hρ];rfl)))) λ_=>aM9 (C7 (aB4 (g:=λi j=>decide (i<j)) (i:=x.1) (j:=y.2) (A2 (i:=2) (by rw[<- hρ];rfl)) (A2 (i:=5) (by rw[<- hρ];rfl)))) λ_=>C7 e
   refine m6 tst (λh=>?_) (λh=>N1 ?_)
   ·simp only[Bool.and_eq_true,decide_eq_true_eq]at h;have ef:(ps.take (j+1)).filterMap (rF ps x)=(ps.take j).filterMap (rF ps x)++[[x.1,x.2,y.2]]:=by
     rw[et,List.filterMap_append]
     congr 1
     simp[rF,h]
    subst hρ;refine R5 (d:=tI [x.1,x.2,y.2]) rfl (N5 (A1 (A2 rfl) (A1 (A2 rfl) (A1 (A2 rfl) A7)))) ?_ ⟨.val (.int y.1),.val (.int y.2),⟨rfl,rfl⟩,?_⟩
    ·rw[Aa3,Ab7];unfold PySem.sizeLine;omega
    ·have em:(ga (λi=>rl1 ps (gp ps i)) i++(ps.take (j+1)).filterMap (rF ps x)).map tI=(ga (λi=>rl1 ps (gp ps i)) i++(ps.take j).filterMap (rF ps x)).map tI++[tI [x.1,x.2,y.2]]:=by
      rw[ef,<- Ad7];rw[Ad2 (f:=tI) (l₂:=[[x.1,x.2,y.2]])];rfl
     rw[em];rfl
   ·have ef:(ps.take (j+1)).filterMap (rF ps x)=(ps.take j).filterMap (rF ps x):=by
     rw[et,List.filterMap_append]
     have:rF ps x y=none:=by
      unfold rF;refine if_neg λhh=>?_
      simp[hh]at h
     simp[this]
    subst hρ;exact⟨.val (.int y.1),.val (.int y.2),⟨rfl,rfl⟩,by rw[ef]⟩
  ·rintro _ ⟨x4,x5,⟨b4,b5⟩,rfl⟩;refine⟨.val (.int x.1),.val (.int x.2),x4,x5,⟨rfl,rfl,b4,b5⟩,?_⟩;rw[Aa3,List.take_length,M5,hx];rfl
 rintro _ ⟨x2,x3,x4,x5,_,rfl⟩;rw[Aa3];exact bR5 rfl rfl
theorem cT8 (T:Tx K mg a):G3 P w K mg base CX0 1 a.X9 a.X6 ["_law_arrows_here", "_law_ring"] (spV K bZ1):=by
 refine T.Y0.ok sc__law_turned (X3 λds d ⟨_,_,_,_,_,e,_⟩=>by rw[e];rfl) (λcdv A outer s H vs Q E hr h=>?_)
 obtain ⟨ds,S,d,hS,r,⟨ps,x,y,z,hl,rfl,rfl⟩,q⟩:=h;refine⟨_,(A5 (aB0 (pv 1) (p8 (n:=3) rfl (E8 (B4 (i:=2) sc__law_turned.nd rfl (Or.inr rfl)) (E8 (B4 (i:=3) sc__law_turned.nd rfl (Or.inr rfl)) (E8 (B4 (i:=4) sc__law_turned.nd rfl (Or.inr rfl)) W9)))))
   (A5 (aA7 (i:=5) sc__law_turned.nd rfl rfl (T:=["_law_pair"]) (N':=["_law_pair", "_law_a", "_law_b", "_law_c"]) (is:=[2,3,4]) rfl (.of rfl rfl rfl (by exact⟨rfl,rfl,rfl,trivial⟩) rfl rfl rfl (by exact⟨⟨_,rfl,by first | exact .inl rfl | exact .inr rfl,by first | exact .inl rfl | exact .inr rfl⟩,⟨_,rfl,by first | exact .inl rfl | exact .inr rfl,by first | exact .inl rfl | exact .inr rfl⟩,⟨_,rfl,by first | exact .inl rfl | exact .inr rfl,by first | exact .inl rfl | exact .inr rfl⟩,trivial⟩)) (X7 (pv 0)) (S0 (by decide)) λ_ _ _ _=>⟨(B4 (i:=0) (by decide +kernel:(["_law_pair", "_law_a", "_law_b", "_law_c"]:List Str).Nodup) rfl (Or.inl rfl)),(aJ4 (C1 (aS1 K hr) (pv 0) (G0 (A0 (G0 (A0 (pv 1) (A0 (pv 2) A3))) (A0 (G0 (A0 (pv 2) (A0 (pv 3) A3))) (A0 (G0 (A0 (pv 3) (A0 (pv 1) A3))) A3)))) rfl)),(pv 0)⟩)
   (A8 (C9 (M0 (bW1 K) (by rfl) T.M6 boot_tuple (A0 (C3 (j8 K) (by rfl) T.R8 boot_sorted (A0 (B2 (M7 K) (pv 5) (C6 (A0 (G0 (A0 (pv 3) (A0 (pv 2) A3))) (A0 (G0 (A0 (pv 4) (A0 (pv 3) A3))) (A0 (G0 (A0 (pv 2) (A0 (pv 4) A3))) A3))))) A3)) A3)))))),M1 hS r ?_ q⟩
 refine B1 (aZ4 (m:=true) (A2 rfl) (aG9 (ds:=[.int x,.int y,.int z]) (K3 B9 (K3 B9 (K3 B9 r9)))) ?_);show W K _ [.val (.tuple (ps.map pD)),.val (tI [x,y,z]),.val (.int x),.val (.int y),.val (.int z),.no] _;have cm:=T7 (K:=K) (m:=true) (ρ:=[.val (.tuple (ps.map pD)),.val (tI [x,y,z]),.val (.int x),.val (.int y),.val (.int z),.no]) (n:=1) (is:=[2,3,4]) (g:=N2 0) (tt:=w4 (tOp (aW0 K true) (D9 0) (aH5 (E1 (aH5 (E1 (D9 1) (E1 (D9 2) S6))) (E1 (aH5 (E1 (D9 2) (E1 (D9 3) S6))) (E1 (aH5 (E1 (D9 3) (E1 (D9 1) S6))) S6)))))) (te:=D9 0) (fNi [(x,y),(y,z),(z,x)]) (v9 (ds:=ps.map pD) (A2 (i:=0) rfl)) (by rw[Aa3];unfold PySem.sizeLine;omega) (λd hd=>by
  obtain ⟨u,hu,rfl⟩:=Aa8.mp hd;refine⟨_,B9,?_⟩;have e:=bD4 (K:=K) (m:=false) (ρ:=(slC [.val (.tuple (ps.map pD)),.val (tI [x,y,z]),.val (.int x),.val (.int y),.val (.int z),.no] 1 [2,3,4]).set 0 (.val (pD u))) (A2 (i:=0) rfl) (N5 (ds:=[(x,y),(y,z),(z,x)].map pD) (A1 (N5 (A1 (A2 (i:=1) rfl) (A1 (A2 (i:=2) rfl) A7))) (A1 (N5 (A1 (A2 (i:=2) rfl) (A1 (A2 (i:=3) rfl) A7))) (A1 (N5 (A1 (A2 (i:=3) rfl) (A1 (A2 (i:=1) rfl) A7))) A7)))) (ds:=[(x,y),(y,z),(z,x)].map pD) rfl (aA4 u).fit (Z8 _);rw[aL5]at e;show match (if(u.1,u.2)∈[(x,y),(y,z),(z,x)] then none else some (tI [u.1,u.2])) with | none=>_ | some y=>_
  by_cases h:u∈[(x,y),(y,z),(z,x)]
  ·rw[if_pos h];rw[decide_eq_true h]at e;exact C7 e
  ·rw[if_neg h];rw[decide_eq_false h]at e;exact⟨C7 e,A2 rfl⟩)
 rw[cC8]at cm;refine B1 (K2 cm ?_ (show 5<6 by decide))
 show W K _ [.val (.tuple (ps.map pD)),.val (tI [x,y,z]),.val (.int x),.val (.int y),.val (.int z),.own ((ps.filter λp=>decide (p∉[(x,y),(y,z),(z,x)])).map pD)] _
 have lf:(ps.filter λp=>decide (p∉[(x,y),(y,z),(z,x)])).length<=60:=Nat.le_trans (List.length_filter_le _ _) hl
 generalize hL:(ps.filter λp=>decide (p∉[(x,y),(y,z),(z,x)]))=Lf at lf
 have ec:=aL0 (K:=K) (ρ:=[.val (.tuple (ps.map pD)),.val (tI [x,y,z]),.val (.int x),.val (.int y),.val (.int z),.own (Lf.map pD)]) (G9 (i:=5) rfl) (EF.e' (J4 (ds:=[(y,x),(z,y),(x,z)].map pD) (A1 (N5 (A1 (A2 (i:=3) rfl) (A1 (A2 (i:=2) rfl) A7))) (A1 (N5 (A1 (A2 (i:=4) rfl) (A1 (A2 (i:=3) rfl) A7))) (A1 (N5 (A1 (A2 (i:=2) rfl) (A1 (A2 (i:=4) rfl) A7))) A7))))) (aB8 _) (aB8 _) (by rw[Aa3];show _+3<=_;unfold PySem.sizeLine;omega)
 rw[<- Ad2]at ec;have es:=aK5 (K:=K) (A1 (EF.e' ec) A7) (by rw[Ab7];show _+3<_;omega)
 refine L9 (U9 (A1 (EF.e' es) A7) (aB8 _)) ?_;show PyData.tuple _=.tuple _;unfold tw;rw[hL]
end
theorem cB6 {a b:List (List Int)}(h:a.Perm b):bO4 a=bO4 b:=
 List.Perm.eq_of_pairwise (le:=K6) (λx y _ _ h1 h2=>aM7 x y h1 h2) (aE4 a) (aE4 b) (((Y3 a).trans h).trans (Y3 b).symm)
theorem bM6 {a b:List (Int×Int)}(h:a.Perm b):sp a=sp b:=by unfold sp;rw[cB6 (h.map toL)]
theorem sc__law_are_rows:D7 ["_law_thing", "_law_many", "_law_size", "_law_row"] ["_law_thing", "_law_many", "_law_size"] (A9 K8):=⟨rfl,rfl,rfl,by decide +kernel,rfl,by decide +kernel,by decide +kernel⟩
def bJ1 (K:PySem.W.Frag):Sp:=λvs H Q _=>∃(a:Addr) (ns:List Int),vs=[.ref a]/\SqL K H a (ns.map V.int)/\ns.length<=63/\∀H',Q (.bl true) H'
def cC6 (xs:List Int)(lo hi:Option Int):List Int:=List.take (HT.sIx xs.length xs.length hi-HT.sIx xs.length 0 lo) (List.drop (HT.sIx xs.length 0 lo) xs)
theorem cV0 (xs:List Int)(lo hi:Option Int):LV.y7 (xs.map PyData.int) lo hi=(cC6 xs lo hi).map PyData.int:=by
 unfold LV.y7 cC6;rw[Aa3,List.map_take,List.map_drop]
theorem bF7 (ps qs:List (Int×Int)):PyData.eqv (.tuple (ps.map pD)) (.tuple (qs.map pD))=decide (ps=qs):=by
 rw[PyData.eqv];exact V8 bR7 ps qs
def cQ4 (ds:List PyData)(d:PyData):Prop:=∃(rows:List (List Int)) (k:Nat),rows.length<=1000/\k<=1000/\(∀r∈rows,r.length=k)/\ds=[.tuple (rows.map tI),.int (rows.length:Int),.int (k:Int)]/\d=.bool true
def fW:PyData->Option PyData
 | .int _=>some (.bool true)
 | _=>none
theorem cJ2 (l:List Int):(l.map PyData.int).filterMap fW=(l.map λ_=>true).map PyData.bool:=by
 rw[List.filterMap_map,Ae2,<- List.filterMap_eq_map];exact U0 λx _=>rfl
theorem aO3:D7 ["_law_found"] ["_law_found"] (A9 O6):=⟨rfl,rfl,rfl,by decide +kernel,rfl,by decide +kernel,by decide +kernel⟩
def aZ5 (ds:List PyData)(d:PyData):Prop:=∃i,ds=[.int i]/\d=.bool true
theorem bY1 (l l':List (List Nat)):PyData.eqv (.tuple (l.map tN)) (.tuple (l'.map tN))=decide (l=l'):=by
 rw[PyData.eqv];refine V8 (f:=tN) (λx y=>?_) l l'
 unfold tN nI;rw[PyData.eqv];exact V8 (f:=λ(x:Nat)=>PyData.int (x:Int)) (λa b=>by rw[aB9];exact decide_eq_decide.mpr (by omega)) x y
theorem aV5 (l:List (List Nat)):Fit (.tuple (l.map tN)):=(aK6 (n:=1) λd hd=>by obtain ⟨x,_,rfl⟩:=Aa8.mp hd;rw[bK6];exact aW2 _).fit
theorem sc_law:D7 ["_law_script", "_law_many", "_law_drawing", "_law_outs", "_law_arrows_here", "_law_k", "_law_some", "_law_before", "_law_a", "_law_b", "_law_c", "_law_last"] ["_law_script"] (A9 aS5):=⟨rfl,rfl,rfl,by decide +kernel,rfl,by decide +kernel,by decide +kernel⟩
theorem aY6 {m:Nat}{dr t:List (List Nat)}(B:TT.Gd m dr t):(sp (arr t)).Nodup:=by
 have A:=aL3 B
 rw[(d0 _).nodup_iff,<- aG5];have h:=A.nd;rw[Ac6,Ae0]at h;rw[Ac6];exact h.imp λ{x y} h e=>h (by rw[e])
theorem i8 {m:Nat}{dr t:List (List Nat)}(B:TT.Gd m dr t){x:Int×Int}:x∈sp (arr t)↔∃p q:Nat,3<=p/\p<m+3/\(∃c,c<3/\TT.og t c p=q)/\x=((p:Int),(q:Int)):=by
 rw[(d0 (arr t)).mem_iff,<- aG5];constructor
 ·intro hx;obtain ⟨v,hv,q,hq,rfl⟩:=aL_mem.mp hx;have hv':v<m:=by rw[<- N3 B];exact hv
  rw[V3 B hv']at hq;simp only[Aa1,Ac2,or_false]at hq;have ev:(v:Int)+3=((v+3:Nat):Int):=by omega
  rw[ev];rcases hq with rfl | rfl | rfl
  ·exact⟨v+3,_,by omega,by omega,⟨0,by omega,rfl⟩,rfl⟩
  ·exact⟨v+3,_,by omega,by omega,⟨1,by omega,rfl⟩,rfl⟩
  ·exact⟨v+3,_,by omega,by omega,⟨2,by omega,rfl⟩,rfl⟩
 ·rintro ⟨p,q,h3,hp,⟨c,hc,rfl⟩,rfl⟩;exact aE0 B hc h3 hp
theorem bI2 {ps qs:List (Int×Int)}{a b c:Int}(n1:ps.Nodup)(n2:qs.Nodup)(h:∀x,x∈qs↔((x∈ps/\x∉[(a,b),(b,c),(c,a)])\/x∈[(b,a),(c,b),(a,c)]))(hn:∀x∈[(b,a),(c,b),(a,c)],x∉ps)(d1:a≠b)(d2:b≠c)(d3:c≠a):(tw ps a b c).Perm qs:=by
 have n3:(tw ps a b c).Nodup:=by
  unfold tw;rw[Aa4];refine⟨n1.filter _,?_,λx hx y hy e=>?_⟩
  ·simp only[Aa5,Aa1,Ac2,or_false,Prod.mk.injEq,not_or,not_and,List.nodup_nil,and_true,not_false_eq_true];refine⟨⟨λh=>absurd h d2,λh _=>d1 h.symm⟩,λh=>absurd h d3⟩
  ·subst e;exact hn x hy (List.mem_filter.mp hx).1
 refine(List.perm_ext_iff_of_nodup n3 n2).mpr λx=>?_
 rw[h x];unfold tw;rw[Aa0,List.mem_filter,decide_eq_true_eq]
theorem cV7 {m:Nat}{dr t:List (List Nat)}(B:TT.Gd m dr t)(h1:TT.H1 (TT.trn dr)){a b c:Int}(hab:(a,b)∈sp (arr t))(hbc:(b,c)∈sp (arr t))(hca:(c,a)∈sp (arr t)) :
  ∃t',TT.Gd m dr t'/\sp (tw (sp (arr t)) a b c)=sp (arr t')/\sp (tw (sp (arr t')) c b a)=sp (arr t):=by
 obtain ⟨p,q,p3,hp,⟨x,hx,ex⟩,e1⟩:=(i8 B).mp hab;obtain ⟨q',r,q3,hq,⟨y,hy,ey⟩,e2⟩:=(i8 B).mp hbc;obtain ⟨r',p',r3,hr,⟨w,hw,ew⟩,e3⟩:=(i8 B).mp hca;obtain ⟨rfl,rfl⟩:=Prod.mk.inj e1;obtain ⟨e4,rfl⟩:=Prod.mk.inj e2;obtain ⟨e5,e6⟩:=Prod.mk.inj e3;obtain rfl:q=q':=by omega
 obtain rfl:r=r':=by omega
 obtain rfl:p=p':=by omega
 obtain ⟨t',B',N⟩:=B.turn h1 ⟨p3,hp⟩ ⟨q3,hq⟩ ⟨r3,hr⟩ hx hy hw ex ey ew;have slf:∀{c v:Nat},c<3->3<=v->v<m+3->TT.og t c v≠v:=λhc h3 hv e=>B.good.self _ (by have:=(B.out_mem hc h3 hv).1;rw[e]at this;exact this)
 have d1:(p:Int)≠q:=λe=>slf hx p3 hp (by omega)
 have d2:(q:Int)≠r:=λe=>slf hy q3 hq (by omega)
 have d3:(r:Int)≠p:=λe=>slf hw r3 hr (by omega)
 have nb:∀u v:Nat,3<=u->u<m+3->3<=v->v<m+3->((u:Int),(v:Int))∈sp (arr t)->((v:Int),(u:Int))∉sp (arr t):=λu v u3 hu v3 hv h h'=>by
  obtain ⟨u1,v1,_,_,⟨c1,hc1,e1⟩,z1⟩:=(i8 B).mp h;obtain ⟨v2,u2,_,_,⟨c2,hc2,e2⟩,z2⟩:=(i8 B).mp h';obtain ⟨z3,z4⟩:=Prod.mk.inj z1;obtain ⟨z5,z6⟩:=Prod.mk.inj z2;obtain rfl:u=u1:=by omega
  obtain rfl:v=v1:=by omega
  obtain rfl:v=v2:=by omega
  obtain rfl:u=u2:=by omega
  exact bJ7 B u3 hu v3 hv hc1 hc2 e1 e2
 have key:∀z,z∈sp (arr t')↔((z∈sp (arr t)/\z∉[((p:Int),(q:Int)),((q:Int),(r:Int)),((r:Int),(p:Int))])\/z∈[((q:Int),(p:Int)),((r:Int),(q:Int)),((p:Int),(r:Int))]):=λz=>by
  rw[i8 B',i8 B];simp only[Aa1,Ac2,or_false,not_or];constructor
  ·rintro ⟨u,v,u3,hu,ho,rfl⟩;simp only[Prod.mk.injEq];rcases (N u v u3 hu).mp ho with ⟨ho',n1,n2,n3⟩ | ⟨rfl,rfl⟩ | ⟨rfl,rfl⟩ | ⟨rfl,rfl⟩
   ·exact .inl ⟨⟨u,v,u3,hu,ho',rfl,rfl⟩,λz=>n1 (by omega),λz=>n2 (by omega),λz=>n3 (by omega)⟩
   ·exact .inr (.inr (.inr ⟨rfl,rfl⟩))
   ·exact .inr (.inl ⟨rfl,rfl⟩)
   ·exact .inr (.inr (.inl ⟨rfl,rfl⟩))
  ·rintro (⟨⟨u,v,u3,hu,ho,rfl⟩,n1,n2,n3⟩ | rfl | rfl | rfl)
   ·refine⟨u,v,u3,hu,(N u v u3 hu).mpr (.inl ⟨ho,λz=>n1 (by rw[z.1,z.2]),λz=>n2 (by rw[z.1,z.2]),λz=>n3 (by rw[z.1,z.2])⟩),rfl⟩
   ·exact⟨q,p,q3,hq,(N q p q3 hq).mpr (.inr (.inr (.inl ⟨rfl,rfl⟩))),rfl⟩
   ·exact⟨r,q,r3,hr,(N r q r3 hr).mpr (.inr (.inr (.inr ⟨rfl,rfl⟩))),rfl⟩
   ·exact⟨p,r,p3,hp,(N p r p3 hp).mpr (.inr (.inl ⟨rfl,rfl⟩)),rfl⟩
 have new:∀z∈[((q:Int),(p:Int)),((r:Int),(q:Int)),((p:Int),(r:Int))],z∉sp (arr t):=λz hz=>by
  simp only[Aa1,Ac2,or_false]at hz;rcases hz with rfl | rfl | rfl
  ·exact nb p q p3 hp q3 hq hab
  ·exact nb q r q3 hq r3 hr hbc
  ·exact nb r p r3 hr p3 hp hca
 refine⟨t',B',?_,?_⟩
 ·rw[bM6 (bI2 (aY6 B) (aY6 B') key new d1 d2 d3),bM6 (d0 _)]
 ·rw[bM6 (bI2 (a:=(r:Int)) (b:=(q:Int)) (c:=(p:Int)) (aY6 B') (aY6 B) (λz=>?_) (λz hz=>?_) (Ne.symm d2) (Ne.symm d1) (Ne.symm d3)),bM6 (d0 _)]
  ·rw[key z];simp only[Aa1,Ac2,or_false,not_or]at new ⊢;constructor
   ·intro hz;by_cases z1:z=((p:Int),(q:Int))
    ·exact .inr (.inr (.inl z1))
    ·by_cases z2:z=((q:Int),(r:Int))
     ·exact .inr (.inl z2)
     ·by_cases z3:z=((r:Int),(p:Int))
      ·exact .inr (.inr (.inr z3))
      ·exact .inl ⟨.inl ⟨hz,z1,z2,z3⟩,λe=>new z (.inr (.inl e)) hz,λe=>new z (.inl e) hz,λe=>new z (.inr (.inr e)) hz⟩
   ·rintro (⟨h | h,n1,n2,n3⟩ | e | e | e)
    ·exact h.1
    ·rcases h with e | e | e
     ·exact absurd e n2
     ·exact absurd e n1
     ·exact absurd e n3
    ·rw[e];exact hbc
    ·rw[e];exact hab
    ·rw[e];exact hca
  ·intro hk;rw[key z]at hk;simp only[Aa1,Ac2,or_false,not_or]at new hz hk;have hm:z∈sp (arr t):=by
    rcases hz with rfl | rfl | rfl
    ·exact hbc
    ·exact hab
    ·exact hca
   rcases hk with ⟨_,n1,n2,n3⟩ | h
   ·rcases hz with e | e | e
    ·exact n2 e
    ·exact n1 e
    ·exact n3 e
   ·exact new z h hm
def tb16:List Int:=[4,5,6,7,7,6,5,4,7,6,5,7,0,1,2,3]
theorem cD1 {k:Nat}(h:k<16):∃m:Nat,m<=7/\tb16[k]? = some (m:Int):=by
 have:=(by decide:∀k:Fin 16,∃m:Fin 8,tb16[k.val]? = some (m.val:Int)) ⟨k,h⟩
 obtain ⟨m,hm⟩:=this;exact⟨m.val,by have:=m.isLt;omega,hm⟩
section
variable {P:Program}{w:World}{K:PySem.W.Frag}{mg:Str->Option Value}{base:Heap}{a:Ad}
theorem bX0 (T:Tx K mg a):G3 P w K mg base CX0 1 a.g6 a.j3 ["_law_found"] (spV K aZ5):=by
 refine T.aD8.ok aO3 (X3 λds d ⟨_,e,_⟩=>by rw[e];rfl) (λcdv A outer s H vs Q E hr h=>?_)
 obtain ⟨ds,S,d,hS,r,⟨i,rfl,rfl⟩,q⟩:=h;refine⟨_,(A8 (C9 (cI7 (C3 aN0 (by rfl) T.L5 boot_isinstance (A0 (pv 0) (A0 (bN3 rfl T.aZ6 boot_int) A3))) (cJ4 (cM4 (C3 aN0 (by rfl) T.L5 boot_isinstance (A0 (pv 0) (A0 (bN3 rfl T.aN2 boot_bool) A3)))))))),M1 hS r ?_ q⟩
 refine(L9 (cQ2 (bJ5 (A2 rfl)) λh=>(cS5 (bJ5 (A2 rfl)))) ?_)
 rfl
theorem cE2 (T:Tx K mg a):G3 P w K mg base CX0 2 a.U4 a.U2 ["_law_thing", "_law_many", "_law_size"] (spV K cQ4):=by
 have G__law_whole:G3 P w K mg base CX0 1 _ _ _ _:=bX0 T
 refine T.m5.ok sc__law_are_rows (X3 λds d ⟨_,_,_,_,_,e,_⟩=>by rw[e];rfl) (λcdv A outer s H vs Q E hr h=>?_)
 obtain ⟨ds,S,d,hS,r,⟨rows,k,hl,hk,hrow,rfl,rfl⟩,q⟩:=h;refine⟨_,(A5 (R7 (PW.pt (w5 (r6 (aA8 (C3 (cR2 K) (by rfl) T.L5 boot_isinstance (A0 (pv 0) (A0 (bN3 rfl T.M6 boot_tuple) A3))))) (aG4 (C1 bN4 (C3 (aN8 K) (by rfl) T.P1 PySem.boot_len (A0 (pv 0) A3)) (pv 1) (E2 _))))) (A8 (C9 V7)) K4)
   (A5 (L7 PassesOwn.never rfl (X7 (pv 0)) (B4 (i:=3) sc__law_are_rows.nd rfl (Or.inl rfl)) (A8 (R7 (PW.pt (w5 (r6 (aA8 (C3 (cR2 K) (by rfl) T.L5 boot_isinstance (A0 (pv 3) (A0 (bN3 rfl T.M6 boot_tuple) A3))))) (w5 (C1 bN4 (C3 (aN8 K) (by rfl) T.P1 PySem.boot_len (A0 (pv 3) A3)) (pv 2) (E2 _)) (aG4 (r6 (aA8 (C3 (bP6 K rfl) (by rfl) T.bD2 boot_all (A0 (j9 (T:=["_law_number"]) (N':=["_law_number"]) (is:=[]) rfl (.of rfl rfl rfl (by exact trivial) rfl rfl rfl (by exact trivial)) (X7 (pv 3)) (S0 (by decide)) λ_ _ _ _=>⟨(B4 (i:=0) (by decide +kernel:(["_law_number"]:List Str).Nodup) rfl (Or.inl rfl)),V5,(C4 G__law_whole (hr.mono (by decide)) rfl T.aU1 T.aD8.kp T.aX7 .nil J5 (A0 (pv 0) A3))⟩) A3)))))))) (A8 (C9 V7)) K4)))
   (A8 (C9 V7)))),M1 hS r ?_ q⟩
 refine B1 (m6 (b := !true || !decide (((rows.map tI).length:Int)=(rows.length:Int))) (aP0 (aH4 (t_b (bJ5 (T := "tuple") (d:=.tuple (rows.map tI)) (A2 rfl)))) λh=>(C7 (bI5 (S8 (ds:=rows.map tI) (A1 (A2 rfl) A7)) (A2 rfl)))) (λh=>?_) (λh=>N1 ?_))
 ·rw[Aa3]at h;simp at h
 refine B1 (P4 (v9 (ds:=rows.map tI) (A2 rfl)) (λi ρ=>∃x3,ρ=[.val (.tuple (rows.map tI)),.val (.int (rows.length:Int)),.val (.int (k:Int)),x3]) ⟨.no,rfl⟩ ?_ ?_)
 ·rintro i d _ hd ⟨x3,rfl⟩;rw[Aa9]at hd;obtain ⟨row,h1,rfl⟩:=Option.map_eq_some_iff.mp hd;have hrl:=hrow row (List.mem_of_getElem? h1);refine⟨_,B9,?_⟩;have cm:=T7 (K:=K) (m:=true) (ρ:=[.val (.tuple (rows.map tI)),.val (.int (rows.length:Int)),.val (.int (k:Int)),.val (tI row)]) (n:=1) (is:=[]) (g:=N2 0) (tt:=aV9) (te:=aP3 (spV K aZ5) [] E0 (E1 (D9 0) S6)) fW (v9 (ds:=row.map PyData.int) (A2 (i:=3) rfl)) (by rw[Aa3];unfold PySem.sizeLine;omega) (λd hd=>by
   obtain ⟨p,hp,rfl⟩:=Aa8.mp hd;exact⟨_,B9,aK7,E3 (A1 (A2 (i:=0) rfl) A7) ⟨_,rfl,rfl⟩⟩)
  rw[cJ2]at cm;show W K _ [.val (.tuple (rows.map tI)),.val (.int (rows.length:Int)),.val (.int (k:Int)),.val (tI row)] _;refine m6 (b := !true||(!decide (((row.map PyData.int).length:Int)=(k:Int)) || !((row.map λ_=>true).all id))) (aP0 (aH4 (t_b (bJ5 (T := "tuple") (d:=tI row) (A2 (i:=3) rfl)))) λh=>(aP0 (C7 (bI5 (S8 (ds:=row.map PyData.int) (A1 (A2 (i:=3) rfl) A7)) (A2 (i:=2) rfl))) λh=>(aH4 (t_b (cP8 (A1 (EF.e' cm) A7)))))) (λh=>?_) (λh=>N1 ⟨.val (tI row),rfl⟩)
  rw[Aa3,hrl]at h;simp at h
 rintro _ ⟨x3,rfl⟩;exact L9 aO5 rfl
theorem cK0 {c Tt:Addr}(T:Tx K mg a)(KX:K.In base)(GX:base.Ns mainGlobals mg)(ht:PySem.W.tabIn K "triple_of" = some (c,Tt)):G3 P w K mg base CX0 9 a.bD7 a.aS7 ["_law_script"] (bJ1 K):=by
 have G__law_mixed:G3 P w K mg base CX0 1 _ _ _ _:=aJ8 T
 have G__law_cell_at:G3 P w K mg base CX0 1 _ _ _ _:=bL9 T
 have G__law_built:G3 P w K mg base CX0 3 _ _ _ _:=bW2 T
 have G__law_arrows:G3 P w K mg base CX0 1 _ _ _ _:=cJ0 T
 have G_outs_of:G3 P w K mg base CX0 8 _ _ _ _:=cA9 T KX GX ht
 have G_arrows_of:G3 P w K mg base CX0 1 _ _ _ _:=cV2 T
 have G__law_are_rows:G3 P w K mg base CX0 2 _ _ _ _:=cE2 T
 have G__law_looks:G3 P w K mg base CX0 3 _ _ _ _:=cU9 T
 have G__law_rings:G3 P w K mg base CX0 1 _ _ _ _:=cR0 T
 have G__law_turned:G3 P w K mg base CX0 1 _ _ _ _:=cT8 T
 refine T.cQ3.ok sc_law (λvs H Q E ⟨_,_,e,_⟩=>by rw[e];rfl) (λcdv A outer s H vs Q E hr h=>?_)
 obtain ⟨ad,ns,rfl,hS,hl,q⟩:=h;have r:Reps K (hid (λ_=>False) H) [V.ref ad] [lI ns]:=by rw[bQ6];exact .cons (.lst hS (aE7 ns)) .nil
 refine⟨_,(A5 (B6 (i:=1) sc_law.nd rfl (Or.inl rfl) (B7 (ixK K) (G0 (A0 A4 (A0 A4 (A0 A4 (A0 A4 (A0 A4 (A0 A4 (A0 A4 (A0 A4 (A0 A4 (A0 A4 (A0 A4 (A0 A4 (A0 A4 (A0 A4 (A0 A4 (A0 A4 A3))))))))))))))))) (B2 U1 (C4 G__law_mixed (hr.mono (by decide)) rfl T.U7 T.Q9.kp T.U8 .nil J5 (A0 (C4 G__law_cell_at (hr.mono (by decide)) rfl T.Q8 T.N7.kp T.R4 .nil J5 (A0 (pv 0) (A0 A4 A3))) (A0 A4 A3))) A4) (λ_ _=>rfl)))
   (A5 (aB0 (C4 G__law_built (hr.mono (by decide)) rfl T.aV8 T.aB1.kp T.aY9 .nil J5 (A0 (C4 G__law_cell_at (hr.mono (by decide)) rfl T.Q8 T.N7.kp T.R4 .nil J5 (A0 (pv 0) (A0 A4 A3))) (A0 (V4 (cK4 K) (pv 0) (W4 A4) (W4 A4)) (A0 (pv 1) A3)))) (p8 (n:=2) rfl (E8 (B4 (i:=2) sc_law.nd rfl (Or.inl rfl)) (E8 (B4 (i:=3) sc_law.nd rfl (Or.inl rfl)) W9))))
   (A5 (B6 (i:=4) sc_law.nd rfl (Or.inl rfl) (C4 G__law_arrows (hr.mono (by decide)) rfl T.aO9 T.w6.kp T.aO6 .nil J5 (A0 (pv 3) A3)))
   (A5 (R7 (PW.pt (w5 (C1 (aE9 K hr) (C4 G_outs_of (hr.mono (by decide)) rfl T.aF5 T.t8.kp T.aG3 .nil J5 (A0 (pv 2) (A0 (pv 4) A3))) (pv 3) (E2 _)) (aG4 (C1 (aE9 K hr) (C4 G_arrows_of (hr.mono (by decide)) rfl T.t4 T.W3.kp T.p4 .nil J5 (A0 (pv 3) A3)) (pv 4) (E2 _))))) (A8 (C9 V7)) K4)
   (A5 (L7 PassesOwn.never rfl (G4 rfl T.G6 (A0 A4 A3)) (B4 (i:=5) sc_law.nd rfl (Or.inl rfl)) (A5 (B6 (i:=6) sc_law.nd rfl (Or.inl rfl) (C4 G__law_rings (hr.mono (by decide)) rfl T.aT4 T.aD7.kp T.aV7 .nil J5 (A0 (pv 4) A3)))
   (A8 (R7 (C1 aG6 (C3 (aN8 K) (by rfl) T.P1 PySem.boot_len (A0 (pv 6) A3)) A4 (E2 _)) (A5 (B6 (i:=7) sc_law.nd rfl (Or.inl rfl) (pv 3))
   (A5 (aB0 (B7 (ixK K) (pv 6) (B2 U1 (C4 G__law_mixed (hr.mono (by decide)) rfl T.U7 T.Q9.kp T.U8 .nil J5 (A0 (C4 G__law_cell_at (hr.mono (by decide)) rfl T.Q8 T.N7.kp T.R4 .nil J5 (A0 (pv 0) (A0 (B2 D1 A4 (pv 5)) A3))) (A0 (B2 D1 A4 (pv 5)) A3))) (C3 (aN8 K) (by rfl) T.P1 PySem.boot_len (A0 (pv 6) A3))) (λ_ _=>rfl)) (p8 (n:=3) rfl (E8 (B4 (i:=8) sc_law.nd rfl (Or.inl rfl)) (E8 (B4 (i:=9) sc_law.nd rfl (Or.inl rfl)) (E8 (B4 (i:=10) sc_law.nd rfl (Or.inl rfl)) W9)))))
   (A5 (B6 (i:=11) sc_law.nd rfl (Or.inl rfl) (pv 4))
   (A5 (B6 (i:=4) sc_law.nd rfl (Or.inl rfl) (C4 G__law_turned (hr.mono (by decide)) rfl T.v8 T.Y0.kp T.w9 .nil J5 (A0 (pv 4) (A0 (G0 (A0 (pv 8) (A0 (pv 9) (A0 (pv 10) A3)))) A3))))
   (A5 (B6 (i:=3) sc_law.nd rfl (Or.inl rfl) (C4 G_outs_of (hr.mono (by decide)) rfl T.aF5 T.t8.kp T.aG3 .nil J5 (A0 (pv 2) (A0 (pv 4) A3))))
   (A5 (R7 (PW.pt (w5 (r6 (aA8 (C4 G__law_are_rows (hr.mono (by decide)) rfl T.aI0 T.m5.kp T.aH7 .nil J5 (A0 (pv 3) (A0 (pv 1) (A0 A4 A3)))))) (w5 (r6 (aA8 (C4 G__law_looks (hr.mono (by decide)) rfl T.aV2 T.aE1.kp T.aX4 .nil J5 (A0 (pv 2) (A0 (pv 3) A3))))) (aG4 (C1 (aE9 K hr) (C4 G_arrows_of (hr.mono (by decide)) rfl T.t4 T.W3.kp T.p4 .nil J5 (A0 (pv 3) A3)) (pv 4) (E2 _)))))) (A8 (C9 V7)) K4)
   (A8 (R7 (PW.pt (w5 (C1 (aE9 K hr) (C4 G_outs_of (hr.mono (by decide)) rfl T.aF5 T.t8.kp T.aG3 .nil J5 (A0 (pv 2) (A0 (C4 G__law_turned (hr.mono (by decide)) rfl T.v8 T.Y0.kp T.w9 .nil J5 (A0 (pv 4) (A0 (G0 (A0 (pv 10) (A0 (pv 9) (A0 (pv 8) A3)))) A3))) A3))) (pv 7) (E2 _)) (aG4 (C1 (aE9 K hr) (C4 G_arrows_of (hr.mono (by decide)) rfl T.t4 T.W3.kp T.p4 .nil J5 (A0 (pv 7) A3)) (pv 11) (E2 _))))) (A8 (C9 V7)) K4)))))))) K4))))
   (A8 (C9 V7))))))),M1 (S:=λ_=>False) (λ_ z=>z.elim) r ?_ (d:=.bool true) (λv H' _ rv=>by cases rv;exact q H')⟩
 obtain ⟨k,hk,hk16⟩:∃k:Nat,mx (cl ns 0) 61 % 16=(k:Int)/\k<16:=⟨(mx (cl ns 0) 61 % 16).toNat,by omega,by omega⟩
 obtain ⟨m,hm7,hmk⟩:=cD1 hk16;refine B1 (L8 (d:=.int (m:Int)) (G5 (d:=.tuple (tb16.map PyData.int)) (ds:=tb16.map PyData.int) (N5 (A1 A6 (A1 A6 (A1 A6 (A1 A6 (A1 A6 (A1 A6 (A1 A6 (A1 A6 (A1 A6 (A1 A6 (A1 A6 (A1 A6 (A1 A6 (A1 A6 (A1 A6 (A1 A6 A7))))))))))))))))) (e_i (E3 (A1 (E3 (A1 (A2 rfl) (A1 A6 A7)) ⟨ns,0,by omega,rfl,rfl⟩) (A1 A6 A7)) ⟨_,61,by omega,rfl,rfl⟩) A6 (by decide)) rfl (K0 k hk (by rw[Aa9,hmk];rfl))) ?_)
 obtain ⟨dr,tr,B⟩:=cS1 (TT.d8 (nu (cl ns 1) (cC6 ns (some 2) (some 9))) m) (cT3 (cl ns 1) m);refine B1 (aZ4 (m:=true) (E3 (A1 (E3 (A1 (A2 rfl) (A1 A6 A7)) ⟨ns,1,by omega,rfl,rfl⟩) (A1 (EF.e' (bD8 (ds:=ns.map PyData.int) (A2 rfl) (m8 A6) (m8 A6) (aE5 ns))) (A1 (A2 rfl) A7))) ⟨cl ns 1,cC6 ns (some 2) (some 9),m,dr,tr,hm7,B,by rw[cV0],rfl⟩) (aG9 (K3 B9 (K3 B9 r9))) ?_)
 have dw:Dw m dr tr:=⟨hm7,_,_,_,B⟩
 have h1:=B.h1
 have aoC:∀t,TT.Gd m dr t->cH6 [.tuple (t.map tN)] (arD t):=λt Wg=>⟨trI t,aG2 Wg,by rw[N3 Wg];omega,by rw[aX6],by unfold arD;rw[aG5]⟩
 have ooC:∀t,TT.Gd m dr t->cI2 [.tuple (dr.map tN),arD t] (.tuple (t.map tN)):=λt Wg=>⟨m,dr,t,⟨hm7,Wg⟩,rfl,rfl⟩
 refine B1 (L8 (d:=arD tr) (E3 (A1 (A2 rfl) A7) ⟨m,dr,tr,dw,rfl,rfl⟩) ?_);show W K _ [.val (lI ns),.val (.int (m:Int)),.val (.tuple (dr.map tN)),.val (.tuple (tr.map tN)),.val (arD tr),.no,.no,.no,.no,.no,.no,.no] _;have WB:=B.gd
 clear B
 refine B1 (m6 (b := !PyData.eqv (.tuple (tr.map tN)) (.tuple (tr.map tN)) || !PyData.eqv (.tuple ((sp (arr tr)).map pD)) (.tuple ((sp (arr tr)).map pD))) (aP0 (C7 (aQ6 (d:=.tuple (tr.map tN)) (E3 (A1 (A2 (i:=2) rfl) (A1 (A2 (i:=4) rfl) A7)) (ooC tr WB)) (A2 (i:=3) rfl) (aV5 _) (aV5 _))) λh=>(C7 (aQ6 (d:=.tuple ((sp (arr tr)).map pD)) (d':=.tuple ((sp (arr tr)).map pD)) (E3 (A1 (A2 (i:=3) rfl) A7) (aoC tr WB)) (A2 (i:=4) rfl) (Z8 _) (Z8 _)))) (λh=>?_) (λh=>N1 ?_))
 ·rw[bY1,bF7,decide_eq_true rfl,decide_eq_true rfl]at h;cases h
 refine B1 (P4 (P7 (A1 A6 A7) (by decide) (by decide)) (λi ρ=>∃t x5 x6 x7 x8 x9 x10 x11,TT.Gd m dr t/\(x5.nb=true/\x6.nb=true/\x7.nb=true/\x8.nb=true/\x9.nb=true/\x10.nb=true/\x11.nb=true)/\ρ=[.val (lI ns),.val (.int (m:Int)),.val (.tuple (dr.map tN)),.val (.tuple (t.map tN)),.val (arD t),x5,x6,x7,x8,x9,x10,x11]) ⟨tr,.no,.no,.no,.no,.no,.no,.no,WB,⟨rfl,rfl,rfl,rfl,rfl,rfl,rfl⟩,rfl⟩ ?_ ?_)
 ·rintro i d _ hd ⟨t,x5,x6,x7,x8,x9,x10,x11,Wg,⟨b5,b6,b7,b8,b9,b10,b11⟩,rfl⟩;obtain ⟨rfl,hi⟩:=Q1 hd;have hi:i<8:=by simpa using hi
  refine⟨_,B9,?_⟩;have h3m:=bF8 (⟨hm7,Wg⟩:Dg m dr t);refine B1 (K2 (bL2 (A1 (A2 (i:=4) rfl) A7) ⟨sp (arr t),by omega,rfl,rfl⟩) ?_ (show 6<12 by decide))
  generalize hR:rgL (sp (arr t))=R;show W K _ [.val (lI ns),.val (.int (m:Int)),.val (.tuple (dr.map tN)),.val (.tuple (t.map tN)),.val (arD t),.val (.int (i:Int)),.own (R.map tI),x7,x8,x9,x10,x11] _;refine m6 (b:=decide (((R.map tI).length:Int)>0)) (C7 (aB4 (S8 (ds:=R.map tI) (A1 (G9 (i:=6) rfl) A7)) A6)) (λh=>?_) (λh=>N1 ⟨t,_,_,x7,x8,x9,x10,x11,Wg,⟨rfl,rfl,b7,b8,b9,b10,b11⟩,rfl⟩)
  have h:=of_decide_eq_true h
  rw[Aa3]at h;refine B1 (L8 (A2 (i:=3) rfl) ?_);show W K _ [.val (lI ns),.val (.int (m:Int)),.val (.tuple (dr.map tN)),.val (.tuple (t.map tN)),.val (arD t),.val (.int (i:Int)),.own (R.map tI),.val (.tuple (t.map tN)),x8,x9,x10,x11] _;obtain ⟨j,hj,hjR⟩:∃j:Nat,mx (cl ns (9+(i:Int))) (62+(i:Int)) % (R.length:Int)=(j:Int)/\j<R.length:=by
   have a1:=Int.emod_nonneg (mx (cl ns (9+(i:Int))) (62+(i:Int))) (b:=(R.length:Int)) (by omega)
   have a2:=Int.emod_lt_of_pos (mx (cl ns (9+(i:Int))) (62+(i:Int))) h
   exact⟨(mx (cl ns (9+(i:Int))) (62+(i:Int)) % (R.length:Int)).toNat,by omega,by omega⟩
  have hRj:R[j]? = some R[j]:=Aa2 hjR
  have hv:R[j]∈rgL (sp (arr t)):=by rw[hR];exact List.getElem_mem hjR
  obtain ⟨za,zb,zc,ev,hab,hbc,hca⟩:=cB1 hv;rw[ev]at hRj;obtain ⟨t',Wg',s1,s2⟩:=cV7 Wg h1 hab hbc hca;refine B1 (aZ4 (m:=true) (LV.E.imm (d:=tI [za,zb,zc]) (G5 (d':=tI [za,zb,zc]) (G9 (i:=6) rfl) (e_i (E3 (d:=.int (mx (cl ns (9+(i:Int))) (62+(i:Int)))) (A1 (E3 (d:=.int (cl ns (9+(i:Int)))) (A1 (A2 (i:=0) rfl) (A1 (K5 A6 (A2 (i:=5) rfl)) A7)) ⟨ns,9+(i:Int),by omega,rfl,rfl⟩) (A1 (K5 A6 (A2 (i:=5) rfl)) A7)) ⟨_,62+(i:Int),by omega,rfl,rfl⟩) (S8 (ds:=R.map tI) (A1 (G9 (i:=6) rfl) A7)) (by rw[Aa3];omega)) rfl (K0 j (by rw[Aa3];exact hj) (by rw[Aa9,hRj];rfl))) rfl) (aG9 (ds:=[.int za,.int zb,.int zc]) (K3 B9 (K3 B9 (K3 B9 r9)))) ?_)
  show W K _ [.val (lI ns),.val (.int (m:Int)),.val (.tuple (dr.map tN)),.val (.tuple (t.map tN)),.val (arD t),.val (.int (i:Int)),.own (R.map tI),.val (.tuple (t.map tN)),.val (.int za),.val (.int zb),.val (.int zc),x11] _
  refine B1 (L8 (A2 (i:=4) rfl) ?_);show W K _ [.val (lI ns),.val (.int (m:Int)),.val (.tuple (dr.map tN)),.val (.tuple (t.map tN)),.val (arD t),.val (.int (i:Int)),.own (R.map tI),.val (.tuple (t.map tN)),.val (.int za),.val (.int zb),.val (.int zc),.val (arD t)] _;have lt1:bZ1 [arD t,tI [za,zb,zc]] (arD t'):=⟨sp (arr t),za,zb,zc,by omega,rfl,by unfold arD;rw[s1]⟩
  have h3m':=bF8 (⟨hm7,Wg'⟩:Dg m dr t')
  have lt2:bZ1 [arD t',tI [zc,zb,za]] (arD t):=⟨sp (arr t'),zc,zb,za,by omega,rfl,by unfold arD;rw[s2]⟩
  refine B1 (L8 (d:=arD t') (E3 (A1 (A2 (i:=4) rfl) (A1 (N5 (ds:=[.int za,.int zb,.int zc]) (A1 (A2 (i:=8) rfl) (A1 (A2 (i:=9) rfl) (A1 (A2 (i:=10) rfl) A7)))) A7)) lt1) ?_);show W K _ [.val (lI ns),.val (.int (m:Int)),.val (.tuple (dr.map tN)),.val (.tuple (t.map tN)),.val (arD t'),.val (.int (i:Int)),.own (R.map tI),.val (.tuple (t.map tN)),.val (.int za),.val (.int zb),.val (.int zc),.val (arD t)] _;refine B1 (L8 (d:=.tuple (t'.map tN)) (E3 (A1 (A2 (i:=2) rfl) (A1 (A2 (i:=4) rfl) A7)) (ooC t' Wg')) ?_);show W K _ [.val (lI ns),.val (.int (m:Int)),.val (.tuple (dr.map tN)),.val (.tuple (t'.map tN)),.val (arD t'),.val (.int (i:Int)),.own (R.map tI),.val (.tuple (t.map tN)),.val (.int za),.val (.int zb),.val (.int zc),.val (arD t)] _;have hio:=bP9 dw Wg';have htl:=N3 Wg';have hlk:cH4 [.tuple (dr.map tN),.tuple (t'.map tN)] (.bool true):=⟨m,dr,tr,trI t',dw,aG2 Wg',by omega,by rw[aX6 t'],by rw[hio]⟩
  refine B1 (m6 (b := !true||(!true || !PyData.eqv (.tuple ((sp (arr t')).map pD)) (.tuple ((sp (arr t')).map pD)))) (aP0 (aH4 (t_b (E3 (d:=.bool true) (A1 (A2 (i:=3) rfl) (A1 (A2 (i:=1) rfl) (A1 (A6 (i:=3)) A7))) ⟨trI t',3,by omega,by decide,aG2 Wg',by rw[aX6,htl];rfl,rfl⟩))) λh=>(aP0 (aH4 (t_b (E3 (d:=.bool true) (A1 (A2 (i:=2) rfl) (A1 (A2 (i:=3) rfl) A7)) hlk))) λh=>(C7 (aQ6 (d:=.tuple ((sp (arr t')).map pD)) (d':=.tuple ((sp (arr t')).map pD)) (E3 (A1 (A2 (i:=3) rfl) A7) (aoC t' Wg')) (A2 (i:=4) rfl) (Z8 _) (Z8 _))))) (λh=>?_) (λh=>N1 ?_))
  ·rw[bF7,decide_eq_true rfl]at h;cases h
  refine m6 (b := !PyData.eqv (.tuple (t.map tN)) (.tuple (t.map tN)) || !PyData.eqv (.tuple ((sp (arr t)).map pD)) (.tuple ((sp (arr t)).map pD))) (aP0 (C7 (aQ6 (d:=.tuple (t.map tN)) (E3 (A1 (A2 (i:=2) rfl) (A1 (E3 (A1 (A2 (i:=4) rfl) (A1 (N5 (ds:=[.int zc,.int zb,.int za]) (A1 (A2 (i:=10) rfl) (A1 (A2 (i:=9) rfl) (A1 (A2 (i:=8) rfl) A7)))) A7)) lt2) A7)) (ooC t Wg)) (A2 (i:=7) rfl) (aV5 _) (aV5 _))) λh=>(C7 (aQ6 (d:=.tuple ((sp (arr t)).map pD)) (d':=.tuple ((sp (arr t)).map pD)) (E3 (A1 (A2 (i:=7) rfl) A7) (aoC t Wg)) (A2 (i:=11) rfl) (Z8 _) (Z8 _)))) (λh=>?_) (λh=>N1 ⟨t',_,_,_,_,_,_,_,Wg',⟨rfl,rfl,rfl,rfl,rfl,rfl,rfl⟩,rfl⟩)
  rw[bY1,bF7,decide_eq_true rfl,decide_eq_true rfl]at h;cases h
 rintro _ ⟨t,x5,x6,x7,x8,x9,x10,x11,_,_,rfl⟩;exact L9 aO5 rfl
end
theorem fin_of {l:PySem.W.OpenLaw}{w:World}{fa f cT PT:Addr}{K:PySem.W.Frag}{mg:Str->Option Value}(hfa:mg "law" = some (.ref fa))(h:∃a:Ad,Tx K mg a/\a.bD7=f/\∀(s:Shared) (v:Value),BindsTo s a.aS7 ⟨[v],[]⟩ [("_law_script",v)])
  (ht:PySem.W.tabIn K "triple_of" = some (cT,PT)) (hk:K.lookup PT=none)
  : ∃fd:FuncData,(∀(s:Shared) (v:Value),BindsTo s fd ⟨[v],[]⟩ [("_law_script",v)])/\(∃cT PT,PySem.W.tabIn K "triple_of" = some (cT,PT)/\K.lookup PT=none)/\∀base:Heap,K.In base->base.Ns mainGlobals mg->G3 l.prog w K mg base CX0 9 fa fd ["_law_script"] (bJ1 K):=by
 obtain ⟨a,T,ea,hb⟩:=h;have e:=hfa.symm.trans T.cP5;cases e;exact⟨a.aS7,hb,⟨cT,PT,ht,hk⟩,λbase KX GX=>cK0 T KX GX ht⟩
theorem walk {l:PySem.W.OpenLaw}{q:Program}{loose:List Str}{XP:(Str->Option Value)->Heap->Prop}{YP:World->Heap->Prop}{d dT:DefRec}{K:Params->PySem.W.Frag}(hn:l.most=some 63)(hdf:d.params.defaults=[])
  (hY:∀(w:World) (h:Heap),YP w h->(K w.params).In h) (hrec:(recsOf q).find? (λe=>e.name==("triple_of" : Str))=some dT)
  (F:∀(w:World) (mg:Str->Option Value) (fa:Addr) (h:Heap),(K w.params).In h->h.Ns mainGlobals mg->mg d.name=some (.ref fa) ->
   ∃fd:FuncData,(∀(s:Shared) (u:Value),BindsTo s fd ⟨[u],[]⟩ [("_law_script",u)])/\(∃cT PT,PySem.W.tabIn (K w.params) "triple_of" = some (cT,PT)/\(K w.params).lookup PT=none)/\∀base:Heap,(K w.params).In base->base.Ns mainGlobals mg->G3 l.prog w (K w.params) mg base CX0 9 fa fd ["_law_script"] (bJ1 (K w.params))) :
  PySem.W.WalkO q loose XP YP l.row.toRowW d [] (λf vs=>PySem.call f vs):=
 L2.bZ7 (n:=63) (k:=9) (x := "_law_script") (CX:=λ_=>CX0) (sp:=λw=>bJ1 (K w.params)) hn (by decide) hdf ⟨rfl,by decide,by decide⟩ hY hrec F (λ_ _ a ns hl hS=>⟨a,ns,rfl,hS,hl,λ_=>rfl⟩) λ_ _ _ _ _ z=>z
end K18
def PySem.W.Fast.tw11991061236408938324:Nat:=0
def PySem.W.Fast.tw270072462061287634:Nat:=0
def PySem.W.Fast.tw6687132124181120473:Nat:=0
def PySem.W.Fast.tw4527765529297356664:Nat:=0
def PySem.W.Fast.tw15790919180558545301:Nat:=0
def PySem.W.Fast.tw15058771999572355235:Nat:=0
def PySem.W.Fast.tw14998602637743968248:Nat:=0
def PySem.W.Fast.tw17929360918333080888:Nat:=0
def PySem.W.Fast.tw5446543345154166849:Nat:=0
def PySem.W.Fast.tw7010767393854260243:Nat:=0
def PySem.W.Fast.tw5600253835843346441:Nat:=0
def PySem.W.Fast.tw6139139709205729640:Nat:=0
def PySem.W.Fast.tw13830505879862208072:Nat:=0
def PySem.W.Fast.tw7949884108223808753:Nat:=0
def PySem.W.Fast.tw142653443581236895:Nat:=0
def PySem.W.Fast.tw10692708484868384183:Nat:=0
def PySem.W.Fast.tw7839723346432755730:Nat:=0
def PySem.W.Fast.tw10684336208835551805:Nat:=0
def PySem.W.Fast.tw18064853238211850179:Nat:=0
def PySem.W.Fast.tw13330166336848188368:Nat:=0
def PySem.W.Fast.tw4018402455460387973:Nat:=0
def PySem.W.Fast.tw2100254458824370602:Nat:=0
def PySem.W.Fast.tw1089205526402668131:Nat:=0
def PySem.W.Fast.tw56895082474966269:Nat:=0
def PySem.W.Fast.tw13754296039717351698:Nat:=0
def PySem.W.Fast.tw971244423699024321:Nat:=0
def PySem.W.Fast.tw12467932894048428383:Nat:=0
def PySem.W.Fast.tw3608034682445095195:Nat:=0
def PySem.W.Fast.tw13924620599861223100:Nat:=0
def PySem.W.Fast.tw12838196249955951679:Nat:=0
def PySem.W.Fast.tw13248164338005108063:Nat:=0
def PySem.W.Fast.tw8270620404902364887:Nat:=0
def PySem.W.Fast.tw8551500657926165131:Nat:=0
def PySem.W.Fast.tw627688024375006799:Nat:=0
def PySem.W.Fast.tw17917569007730321158:Nat:=0
def PySem.W.Fast.tw12826169250192227739:Nat:=0
def PySem.W.Fast.tw7372040000427109986:Nat:=0
def PySem.W.Fast.tw575736192868749786:Nat:=0
def PySem.W.Fast.tw3210250345793883685:Nat:=0
def PySem.W.Fast.tw17128490575221074943:Nat:=0
def PySem.W.Fast.tw12912022605768623712:Nat:=0
def PySem.W.Fast.tw7960770515040502762:Nat:=0
open PySem PySem.W PyProof.Rows
set_option maxRecDepth 100000 in
set_option maxHeartbeats 0 in
theorem PySem.Challenge.cw_threetrees_k18_whole_colours_of_turned_r_holds : PySem.Challenge.rw_threetrees_k18_whole_colours_of_turned_r.Holds := by
 w_on;o_law;k_head;(case hw=>w_witness2)
 k_fill
 refine' K18.walk (l:=PySem.Challenge.rw_threetrees_k18_whole_colours_of_turned_r) rfl rfl (λw h Y=>PySem.W.km_in_of Y) ?R ?F
 case R=>exact rfl
 case F=>
  intro w mg fa h KX G hmg;refine' K18.fin_of hmg (K18.tx_mk KX G ?a0 ?l0 ?c0 ?k0 ?a1 ?l1 ?c1 ?k1 ?a2 ?l2 ?c2 ?k2 ?a3 ?l3 ?c3 ?k3 ?a4 ?l4 ?c4 ?k4 ?a5 ?l5 ?c5 ?k5 ?a6 ?l6 ?c6 ?k6 ?a7 ?l7 ?c7 ?k7 ?a8 ?l8 ?c8 ?k8 ?a9 ?l9 ?c9 ?k9 ?a10 ?l10 ?c10 ?k10 ?a11 ?l11 ?c11 ?k11 ?a12 ?l12 ?c12 ?k12 ?a13 ?l13 ?c13 ?k13 ?a14 ?l14 ?c14 ?k14 ?a15 ?l15 ?c15 ?k15 ?a16 ?l16 ?c16 ?k16 ?a17 ?l17 ?c17 ?k17 ?a18 ?l18 ?c18 ?k18 ?a19 ?l19 ?c19 ?k19 ?a20 ?l20 ?c20 ?k20 ?a21 ?l21 ?c21 ?k21 ?bD2 ?aN2 ?T9 ?aZ6 ?L5 ?P1 ?q9 ?bB7 ?G6 ?T5 ?R8 ?M6 ?J7) ?tt ?tk
  (case a0=>k_is)
  (case l0=>k_is)
  (case c0=>k_is)
  (case k0=>k_is)
  (case a1=>k_is)
  (case l1=>k_is)
  (case c1=>k_is)
  (case k1=>k_is)
  (case a2=>k_is)
  (case l2=>k_is)
  (case c2=>k_is)
  (case k2=>k_is)
  (case a3=>k_is)
  (case l3=>k_is)
  (case c3=>k_is)
  (case k3=>k_is)
  (case a4=>k_is)
  (case l4=>k_is)
  (case c4=>k_is)
  (case k4=>k_is)
  (case a5=>k_is)
  (case l5=>k_is)
  (case c5=>k_is)
  (case k5=>k_is)
  (case a6=>k_is)
  (case l6=>k_is)
  (case c6=>k_is)
  (case k6=>k_is)
  (case a7=>k_is)
  (case l7=>k_is)
  (case c7=>k_is)
  (case k7=>k_is)
  (case a8=>k_is)
  (case l8=>k_is)
  (case c8=>k_is)
  (case k8=>k_is)
  (case a9=>k_is)
  (case l9=>k_is)
  (case c9=>k_is)
  (case k9=>k_is)
  (case a10=>k_is)
  (case l10=>k_is)
  (case c10=>k_is)
  (case k10=>k_is)
  (case a11=>k_is)
  (case l11=>k_is)
  (case c11=>k_is)
  (case k11=>k_is)
  (case a12=>k_is)
  (case l12=>k_is)
  (case c12=>k_is)
  (case k12=>k_is)
  (case a13=>k_is)
  (case l13=>k_is)
  (case c13=>k_is)
  (case k13=>k_is)
  (case a14=>k_is)
  (case l14=>k_is)
  (case c14=>k_is)
  (case k14=>k_is)
  (case a15=>k_is)
  (case l15=>k_is)
  (case c15=>k_is)
  (case k15=>k_is)
  (case a16=>k_is)
  (case l16=>k_is)
  (case c16=>k_is)
  (case k16=>k_is)
  (case a17=>k_is)
  (case l17=>k_is)
  (case c17=>k_is)
  (case k17=>k_is)
  (case a18=>k_is)
  (case l18=>k_is)
  (case c18=>k_is)
  (case k18=>k_is)
  (case a19=>k_is)
  (case l19=>k_is)
  (case c19=>k_is)
  (case k19=>k_is)
  (case a20=>k_is)
  (case l20=>k_is)
  (case c20=>k_is)
  (case k20=>k_is)
  (case a21=>k_is)
  (case l21=>k_is)
  (case c21=>k_is)
  (case k21=>k_is)
  (case bD2=>k_is)
  (case aN2=>k_is)
  (case T9=>k_is)
  (case aZ6=>k_is)
  (case L5=>k_is)
  (case P1=>k_is)
  (case q9=>k_is)
  (case bB7=>k_is)
  (case G6=>k_is)
  (case T5=>k_is)
  (case R8=>k_is)
  (case M6=>k_is)
  (case J7=>k_is)
  (case tt=>show _=some (37,35);kernel_rfl)
  (case tk=>kernel_rfl)
